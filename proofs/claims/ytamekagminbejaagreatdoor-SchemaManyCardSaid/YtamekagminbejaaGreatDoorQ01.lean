/-
  Part 1 of 8 of what the proof leans on: each part below says what it proves, and of what; no condition besides.
-/
import Derived.Orders
import Derived.Below
import Derived.KernelRfl
import Derived.Test.YtamekagminbejaaGreatDoorProg
import Derived.WalkKit
import Derived.WalkSpells
import Derived.WalkLawsBesides
import Derived.Deep.QuietTactic
import Derived.Deep.RegionWith
import Derived.Deep.DrawnRows
import Derived.BigQuiet
import Derived.Lib.Hide
import Derived.Laws.StructEq
import Derived.Maps.AppendAt
import Derived.Deep.AppendLies
import Derived.OwnWalk
import Derived.Lib.BufSteps
import Derived.Lib.Replace
import Derived.Lib.ReplaceLaws
import Derived.Lib.ItoaNum
import Derived.Lib.Join
import Derived.Lib.AtoiAll
import Derived.Lib.Bytealg
set_option linter.unusedVariables false
set_option linter.unusedSimpArgs false
namespace Go.Proofs.YtamekagminbejaaGreatDoor
open Go Go.RowKit
namespace Reg
def direct (o : Oper) : List Nat := (o.after.toList.filter fun e => Region.binds .any e).map (·.on)
def slot (a : Act) (t : Tmp) : Value := a.tmps.getD t undef
def dsts (ops : Array Oper) : List Tmp := ops.toList.filterMap (·.dst)
def At (see : Nat → List Tmp) (fact : Nat → List Value → World → Prop) (i : Nat) (a : Act) (w : World) : Prop := fact i ((see i).map (slot a)) w
def okAt (ops : Array Oper) (see deps olds : Nat → List Nat) (i : Nat) (o : Oper) : Bool :=
 ((olds i).all fun t => (List.range ops.size).all fun k => match ops[k]? with
   | some ok => ok.dst != some t || (direct ok).contains i
   | none => true) &&
 ((direct o).all fun j => decide (j < i)) &&
 ((deps i).all fun j => (direct o).any fun k => j == k || (deps k).contains j) &&
 ((List.range ops.size).all fun k => match (ops[k]?).bind (·.dst) with
   | some d => !(see i).contains d || k == i || (deps i).contains k
   | none => true)
def ok (ops : Array Oper) (see deps olds : Nat → List Nat) : Bool :=
 (List.range ops.size).all fun i => match ops[i]? with
   | some o => okAt ops see deps olds i o
   | none => true
section
variable {P : Program} {ops : Array Oper} {Q : Exit → Act → World → Prop} {see deps olds : Nat → List Nat} {fact : Nat → List Value → World → Prop}
theorem ok_spec (h : ok ops see deps olds = true) {i : Nat} {o : Oper} (hi : ops[i]? = some o) : okAt ops see deps olds i o = true := by
 have hlt : i < ops.size := (Array.getElem?_eq_some_iff.1 hi).1
 have := List.all_eq_true.1 h i (List.mem_range.2 hlt)
 simpa [hi] using this
structure Inv (ops : Array Oper) (see : Nat → List Nat) (fact : Nat → List Value → World → Prop) (B : Nat) (a0 : Act) (w0 : World) (listed : Array Bool) (a : Act) (w : World) : Prop where
 defers : a.defers = a0.defers
 size : a.tmps.size = a0.tmps.size
 old : ∀ t, (∀ k o, ops[k]? = some o → o.dst = some t → listed.getD k true = false) → slot a t = slot a0 t
 below : Below B w0 w
 down : ∀ i o, ops[i]? = some o → listed.getD i true = true → ∀ j ∈ direct o, listed.getD j true = true
 facts : ∀ i, i < ops.size → listed.getD i true = true → At see fact i a w
def StepOk (P : Program) (ops : Array Oper) (Q : Exit → Act → World → Prop) (see deps olds : Nat → List Nat) (fact : Nat → List Value → World → Prop) (B : Nat) (a0 : Act) (w0 : World) (i : Nat) (o : Oper) : Prop :=
 ∀ (a : Act) (w : World), a.tmps.size = a0.tmps.size → (∀ t, t ∉ dsts ops → slot a t = slot a0 t) → (∀ t ∈ olds i, slot a t = slot a0 t) → Below B w0 w → (∀ j ∈ deps i, At see fact j a w) →
  wpOp P ops Q i (fun a' w' => ∃ v, a' = a.put o.dst v ∧ At see fact i a' w' ∧ Below B w w' ∧ ∀ j, j ≠ i → j < ops.size → At see fact j a w → At see fact j a w') a w
theorem slot_put_ne (a : Act) (dst : Option Tmp) (v : Value) (t : Tmp) (h : dst ≠ some t) : slot (a.put dst v) t = slot a t := by
 cases dst with
 | none => rfl
 | some d =>
   have hne : d ≠ t := fun e => h (by rw [e])
   simp [slot, Act.put, Array.getElem?_setIfInBounds_ne hne]
theorem slot_put_same (a : Act) (d : Tmp) (v : Value) (h : d < a.tmps.size) : slot (a.put (some d) v) d = v := by
 simp [slot, Act.put, h]
theorem size_put (a : Act) (dst : Option Tmp) (v : Value) : (a.put dst v).tmps.size = a.tmps.size := by
 cases dst <;> simp [Act.put]
theorem defers_put (a : Act) (dst : Option Tmp) (v : Value) : (a.put dst v).defers = a.defers := by
 cases dst <;> rfl
theorem at_put {i : Nat} {a : Act} {w : World} {dst : Option Tmp} {v : Value} (h : ∀ d, dst = some d → d ∉ see i) (hf : At see fact i a w) : At see fact i (a.put dst v) w := by
 unfold At at *
 have : (see i).map (slot (a.put dst v)) = (see i).map (slot a) := List.map_congr_left fun t ht => slot_put_ne a dst v t (fun e => h t e ht)
 rw [this]; exact hf
theorem listed_lt {listed : Array Bool} {j : Nat} (h : listed.getD j true = false) : j < listed.size := by
 rcases Nat.lt_or_ge j listed.size with h' | h'
 · exact h'
 · simp [Array.getElem?_eq_none h'] at h
theorem getD_set {listed : Array Bool} {i j : Nat} (h : (listed.setIfInBounds i true).getD j true = true) : j = i ∨ listed.getD j true = true := by
 by_cases e : j = i
 · exact .inl e
 · right; rw [getD_set_ne true (fun e' => e e'.symm)] at h; exact h
theorem no_writer {t : Tmp} (h : t ∉ dsts ops) {k : Nat} {o : Oper} (hk : ops[k]? = some o) : o.dst ≠ some t :=
 fun hd => h (List.mem_filterMap.2 ⟨o, by have := Array.mem_of_getElem? hk; simpa using this, hd⟩)
theorem Inv.rest {B : Nat} {a0 : Act} {w0 : World} {listed : Array Bool} {a : Act} {w : World} (h : Inv ops see fact B a0 w0 listed a w) (t : Tmp) (ht : t ∉ dsts ops) : slot a t = slot a0 t :=
 h.old t fun _ _ hk hd => absurd hd (no_writer ht hk)
theorem deps_listed (hok : ok ops see deps olds = true) {listed : Array Bool} (down : ∀ i o, ops[i]? = some o → listed.getD i true = true → ∀ j ∈ direct o, listed.getD j true = true) :
 ∀ (n i : Nat) (o : Oper), i ≤ n → ops[i]? = some o → (∀ j ∈ direct o, listed.getD j true = true) → ∀ j ∈ deps i, listed.getD j true = true := by
 intro n
 induction n with
 | zero =>
   intro i o hi ho hd j hj
   have h := ok_spec hok ho
   simp only [okAt, Bool.and_eq_true, List.all_eq_true, List.any_eq_true, decide_eq_true_eq] at h
   obtain ⟨k, hk, _⟩ := h.1.2 j hj
   have := h.1.1.2 k hk
   omega
 | succ n ih =>
   intro i o hi ho hd j hj
   have h := ok_spec hok ho
   simp only [okAt, Bool.and_eq_true, List.all_eq_true, List.any_eq_true, decide_eq_true_eq] at h
   obtain ⟨k, hk, hjk⟩ := h.1.2 j hj
   have hki := h.1.1.2 k hk
   rcases Bool.or_eq_true _ _ ▸ hjk with e | e
   · have : j = k := by simpa using e
     subst this; exact hd j hk
   · have hko : k < ops.size := by have := (Array.getElem?_eq_some_iff.1 ho).1; omega
     exact ih k ops[k] (by omega) (Array.getElem?_eq_getElem hko) (down k ops[k] (Array.getElem?_eq_getElem hko) (hd k hk)) j (by simpa using e)
theorem wpAny_inv (hok : ok ops see deps olds = true) {B : Nat} {a0 : Act} {w0 : World}
 (hstep : ∀ i o, ops[i]? = some o → StepOk P ops Q see deps olds fact B a0 w0 i o)
 (hend : ∀ a w, a.defers = a0.defers → a.tmps.size = a0.tmps.size → (∀ t, t ∉ dsts ops → slot a t = slot a0 t) → Below B w0 w → (∀ i, i < ops.size → At see fact i a w) → Q .normal a w) :
 ∀ (fuel : Nat) (listed : Array Bool) (a : Act) (w : World), listed.size = ops.size → (listed.toList.countP fun b => !b) ≤ fuel → Inv ops see fact B a0 w0 listed a w → wpAny P .any ops Q fuel listed a w := by
 have final : ∀ (listed : Array Bool) (a : Act) (w : World), listed.size = ops.size → Inv ops see fact B a0 w0 listed a w → Region.ready .any ops listed = [] → Q .normal a w := by
  intro listed a w hsz hI hr
  have all : ∀ (n i : Nat), i < n → i < ops.size → listed.getD i true = true := by
   intro n
   induction n with
   | zero => intro i hi; omega
   | succ n ih =>
     intro i hi ho
     cases hl : listed.getD i true with
     | true => rfl
     | false =>
       have hmem : i ∈ Region.ready .any ops listed := by
        refine mem_ready.2 ⟨hl, ops[i], Array.getElem?_eq_getElem ho, fun e he hb => ?_⟩
        have hdir : e.on ∈ direct ops[i] := List.mem_map.2 ⟨e, List.mem_filter.2 ⟨by simpa using he, hb⟩, rfl⟩
        have h := ok_spec hok (Array.getElem?_eq_getElem ho)
        simp only [okAt, Bool.and_eq_true, List.all_eq_true, decide_eq_true_eq] at h
        have hlt := h.1.1.2 _ hdir
        have := ih e.on (by omega) (by omega)
        have hs : e.on < listed.size := by omega
        simp [hs] at this ⊢
        exact this
       rw [hr] at hmem; cases hmem
  exact hend a w hI.defers hI.size hI.rest hI.below fun i hi => hI.facts i hi (all (i + 1) i (by omega) hi)
 intro fuel
 induction fuel with
 | zero =>
   intro listed a w hsz hc hI
   have hnil : Region.ready .any ops listed = [] := by
    rcases hr : Region.ready .any ops listed with _ | ⟨x, xs⟩
    · rfl
    · exfalso
      have hx : x ∈ Region.ready .any ops listed := by rw [hr]; simp
      have h0 := (mem_ready.1 hx).1
      have hlt := listed_lt h0
      have : false ∈ listed.toList := by
       have : listed[x] = false := by simpa [hlt] using h0
       exact this ▸ (by simp : listed[x] ∈ listed.toList)
      have hp : 0 < listed.toList.countP fun b => !b := List.countP_pos_iff.2 ⟨false, this, rfl⟩
      omega
   exact ⟨hnil, final listed a w hsz hI hnil⟩
 | succ fuel ih =>
   intro listed a w hsz hc hI
   refine ⟨final listed a w hsz hI, fun i hi => ?_⟩
   obtain ⟨h0, o, ho, hall⟩ := mem_ready.1 hi
   have hilt : i < ops.size := (Array.getElem?_eq_some_iff.1 ho).1
   have hdir : ∀ j ∈ direct o, listed.getD j true = true := by
    intro j hj
    obtain ⟨e, he, rfl⟩ := List.mem_map.1 hj
    obtain ⟨he1, he2⟩ := List.mem_filter.1 he
    have := hall e (by simpa using he1) he2
    rcases Nat.lt_or_ge e.on listed.size with h' | h'
    · simp [h'] at this ⊢; exact this
    · simp [Array.getElem?_eq_none h'] at this
   have hdeps := deps_listed hok hI.down i i o (Nat.le_refl _) ho hdir
   have hdepslt : ∀ j ∈ deps i, j < ops.size := by
    intro j hj
    -- every dep is before i
    have key : ∀ (n i : Nat) (o : Oper), i ≤ n → ops[i]? = some o → ∀ j ∈ deps i, j < i := by
     intro n
     induction n with
     | zero =>
       intro i o hi ho j hj
       have h := ok_spec hok ho
       simp only [okAt, Bool.and_eq_true, List.all_eq_true, List.any_eq_true, decide_eq_true_eq] at h
       obtain ⟨k, hk, _⟩ := h.1.2 j hj
       have := h.1.1.2 k hk
       omega
     | succ n ihn =>
       intro i o hi ho j hj
       have h := ok_spec hok ho
       simp only [okAt, Bool.and_eq_true, List.all_eq_true, List.any_eq_true, decide_eq_true_eq] at h
       obtain ⟨k, hk, hjk⟩ := h.1.2 j hj
       have hki := h.1.1.2 k hk
       rcases Bool.or_eq_true _ _ ▸ hjk with e | e
       · have : j = k := by simpa using e
         omega
       · have hko : k < ops.size := by have := (Array.getElem?_eq_some_iff.1 ho).1; omega
         have := ihn k ops[k] (by omega) (Array.getElem?_eq_getElem hko) j (by simpa using e)
         omega
    have := key i i o (Nat.le_refl _) ho j hj
    omega
   have hOld : ∀ t ∈ olds i, slot a t = slot a0 t := by
    intro t ht
    refine hI.old t fun k ok hk hd => ?_
    have h := ok_spec hok ho
    simp only [okAt, Bool.and_eq_true, List.all_eq_true] at h
    have hkk := h.1.1.1 t ht k (List.mem_range.2 (Array.getElem?_eq_some_iff.1 hk).1)
    simp only [hk, hd, bne_self_eq_false, Bool.false_or, List.contains_iff_mem] at hkk
    cases hl : listed.getD k true with
    | false => rfl
    | true =>
      have := hI.down k ok hk hl i hkk
      rw [this] at h0; cases h0
   refine wpOp_mono ?_ (hstep i o ho a w hI.size hI.rest hOld hI.below fun j hj => hI.facts j (hdepslt j hj) (hdeps j hj))
   rintro a' w' ⟨v, rfl, hfi, hbw, hkeep⟩
   have hnl : ∀ j, j < ops.size → listed.getD j true = true → i ∉ deps j := by
    intro j hj hlj hmem
    have := deps_listed hok hI.down j j ops[j] (Nat.le_refl _) (Array.getElem?_eq_getElem hj) (hI.down j ops[j] (Array.getElem?_eq_getElem hj) hlj) i hmem
    rw [this] at h0; cases h0
   refine ih _ _ _ (by simpa using hsz) ?_ ⟨?_, ?_, ?_, ?_, ?_, ?_⟩
   · -- the count goes down
     have hls : i < listed.size := listed_lt h0
     have hv : listed[i] = false := by simpa [hls] using h0
     have hset : (listed.setIfInBounds i true).toList = listed.toList.set i true := by simp
     rw [hset, List.countP_set (by simpa using hls)]
     have h1 : listed.toList[i] = false := by simpa using hv
     simp only [h1, Bool.not_false, if_true, Bool.not_true, Bool.false_eq_true, if_false]
     omega
   · rw [defers_put]; exact hI.defers
   · rw [size_put]; exact hI.size
   · intro t ht
     have hne : o.dst ≠ some t := fun hd => by
      have := ht i o ho hd
      have hls : i < listed.size := listed_lt h0
      simp [hls] at this
     rw [slot_put_ne _ _ _ _ hne]
     refine hI.old t fun k ok hk hd => ?_
     have := ht k ok hk hd
     by_cases e : i = k
     · subst e; exact h0
     · rwa [getD_set_ne true e] at this
   · exact hI.below.trans hbw
   · intro j oj hoj hlj k hk
     rcases getD_set hlj with rfl | hl
     · rw [ho] at hoj; cases hoj
       have hki : k ≠ j := by
        have h := ok_spec hok ho
        simp only [okAt, Bool.and_eq_true, List.all_eq_true, decide_eq_true_eq] at h
        have := h.1.1.2 k hk
        omega
       rw [getD_set_ne true (Ne.symm hki)]; exact hdir k hk
     · have := hI.down j oj hoj hl k hk
       by_cases e : i = k
       · subst e; rw [this] at h0; cases h0
       · rw [getD_set_ne true e]; exact this
   · intro j hj hlj
     rcases getD_set hlj with rfl | hl
     · exact hfi
     · have hji : j ≠ i := by rintro rfl; rw [hl] at h0; cases h0
       have hfj := hkeep j hji hj (hI.facts j hj hl)
       refine at_put (fun d hd hmem => ?_) hfj
       have h := ok_spec hok (Array.getElem?_eq_getElem hj)
       simp only [okAt, Bool.and_eq_true, List.all_eq_true] at h
       have := h.2 i (List.mem_range.2 hilt)
       simp only [ho, Option.bind_some, hd] at this
       simp only [Bool.or_eq_true, Bool.not_eq_true', beq_iff_eq, List.contains_iff_mem] at this
       rcases this with (h1 | h1) | h1
       · simp [hmem] at h1
       · exact hji h1.symm
       · exact hnl j hj hl h1
theorem wp_region_facts {id : Nat} {a : Act} {w : World} (hm : P.follows .mixedOrders = true) (see deps olds : Nat → List Nat) (fact : Nat → List Value → World → Prop) (hok : ok ops see deps olds = true)
 (B : Nat) (hstep : ∀ i o, ops[i]? = some o → StepOk P ops Q see deps olds fact B a w i o)
 (hend : ∀ a' w', a'.defers = a.defers → a'.tmps.size = a.tmps.size → (∀ t, t ∉ dsts ops → slot a' t = slot a t) → Below B w w' → (∀ i, i < ops.size → At see fact i a' w') → Q .normal a' w') :
 (Code.region id ops true).wp P Q a w := by
 refine wp_region_any hm ?_
 refine wpAny_inv hok (B := B) (a0 := a) (w0 := w) hstep hend ops.size _ a _ (by simp) ?_ ⟨rfl, rfl, fun _ _ => rfl, (Below.refl _ _).drew, ?_, ?_⟩
 · refine Nat.le_trans List.countP_le_length ?_
   simp
 · intro i o hi hl
   have hlt : i < ops.size := (Array.getElem?_eq_some_iff.1 hi).1
   simp [hlt] at hl
 · intro i hi hl
   simp [hi] at hl
end
end Reg
end Go.Proofs.YtamekagminbejaaGreatDoor
namespace Go.Proofs.YtamekagminbejaaGreatDoor
open Go Go.RowKit
namespace Reg
def putAll (a : Act) : List (Tmp × Value) → Act
 | [] => a
 | x :: l => putAll (a.put (some x.1) x.2) l
theorem putAll_size (l : List (Tmp × Value)) : ∀ a : Act, (putAll a l).tmps.size = a.tmps.size := by
 induction l with
 | nil => intro a; rfl
 | cons x l ih => intro a; rw [putAll, ih, size_put]
theorem putAll_defers (l : List (Tmp × Value)) : ∀ a : Act, (putAll a l).defers = a.defers := by
 induction l with
 | nil => intro a; rfl
 | cons x l ih => intro a; rw [putAll, ih, defers_put]
theorem putAll_other (l : List (Tmp × Value)) (t : Tmp) : ∀ a : Act, t ∉ l.map (·.1) → slot (putAll a l) t = slot a t := by
 induction l with
 | nil => intro a _; rfl
 | cons x l ih =>
   intro a h
   simp only [List.map_cons, List.mem_cons, not_or] at h
   rw [putAll, ih _ h.2, slot_put_ne]
   intro e; injection e with e; exact h.1 e.symm
theorem putAll_at (l : List (Tmp × Value)) (t : Tmp) (v : Value) : ∀ a : Act, t < a.tmps.size → (l.map (·.1)).Nodup → (t, v) ∈ l → slot (putAll a l) t = v := by
 induction l with
 | nil => intro a _ _ h; cases h
 | cons x l ih =>
   intro a ht hn h
   simp only [List.map_cons, List.nodup_cons] at hn
   rw [putAll]
   rcases List.mem_cons.1 h with rfl | h
   · rw [putAll_other _ _ _ hn.1, slot_put_same _ _ _ ht]
   · exact ih _ (by rw [size_put]; exact ht) hn.2 h
def fin (a : Act) (vals : List (Tmp × Value)) (free : List Tmp) (g : Tmp → Value) : Act := putAll a (vals ++ free.map fun t => (t, g t))
def fr (a : Act) (vals late : List (Tmp × Value)) (free : List Tmp) (early : Nat → Bool) (i : Nat) (g : Tmp → Value) : Act := if early i then fin a vals free g else fin a (vals ++ late) free g
def oldsOf (ops : Array Oper) (late : List (Tmp × Value)) (early : Nat → Bool) (i : Nat) : List Tmp :=
 match ops[i]? with
 | some o => if early i then (o.looksAt ops).filter fun t => (late.map (·.1)).contains t else []
 | none => []
def plan (ops : Array Oper) (n : Nat) (vals late : List (Tmp × Value)) (free : List Tmp) (sf : Nat → List Tmp) (early : Nat → Bool) : Bool :=
 (((vals ++ late).map (·.1) ++ free).all fun t => decide (t < n) && (dsts ops).contains t) &&
 ((dsts ops).all fun t => ((vals ++ late).map (·.1) ++ free).contains t) &&
 decide (((vals ++ late).map (·.1) ++ free).Nodup) &&
 decide ((dsts ops).Nodup) &&
 ((List.range ops.size).all fun i => match ops[i]? with
   | none => true
   | some o =>
     ((direct o).all fun j => decide (j < i)) &&
     ((oldsOf ops late early i).all fun t => (List.range ops.size).all fun k => match ops[k]? with
       | some ok => ok.dst != some t || (direct ok).contains i
       | none => true) &&
     ((o.looksAt ops).all fun t => !(dsts ops).contains t || (oldsOf ops late early i).contains t || (direct o).any fun j => ((ops[j]?).bind (·.dst)) == some t) &&
     ((sf i).all fun t => free.contains t && (o.dst == some t || (direct o).any fun j => ((ops[j]?).bind (·.dst)) == some t)))
def seeOf (ops : Array Oper) (sf : Nat → List Tmp) (i : Nat) : List Tmp := (((ops[i]?).bind (·.dst)).toList) ++ sf i
def depsOf (ops : Array Oper) (i : Nat) : List Nat := ((ops[i]?).map direct).getD []
def factOf (ops : Array Oper) (vals : List (Tmp × Value)) (p : Nat → List Value → World → Prop) (i : Nat) (vs : List Value) (w : World) : Prop :=
 match (ops[i]?).bind (·.dst) with
 | some d => (∀ v, (d, v) ∈ vals → vs.head? = some v) ∧ p i vs.tail w
 | none => p i vs w
section
variable {P : Program} {ops : Array Oper} {Q : Exit → Act → World → Prop}
theorem wanted_congr (o : Oper) (a a' : Act) (hsz : a.tmps.size = a'.tmps.size) (h : ∀ t ∈ o.looksAt ops, slot a t = slot a' t) : Region.wanted o (yielded ops a.tmps) = Region.wanted o (yielded ops a'.tmps) := by
 unfold Region.wanted
 cases hg : o.guard with
 | none => rfl
 | some gw =>
   obtain ⟨g, want⟩ := gw
   have hy : yielded ops a.tmps g = yielded ops a'.tmps g := by
    unfold yielded
    cases ht : (ops[g]?).bind (·.dst) with
    | none => rfl
    | some t =>
      have := h t (by simp [Oper.looksAt, hg, ht])
      have e : a.tmps[t]? = a'.tmps[t]? := by
       rcases Nat.lt_or_ge t a.tmps.size with hlt | hge
       · have hlt' : t < a'.tmps.size := hsz ▸ hlt
         simp only [slot, Array.getD_eq_getD_getElem?, Array.getElem?_eq_getElem hlt, Array.getElem?_eq_getElem hlt', Option.getD_some] at this
         rw [Array.getElem?_eq_getElem hlt, Array.getElem?_eq_getElem hlt', this]
       · rw [Array.getElem?_eq_none hge, Array.getElem?_eq_none (show a'.tmps.size ≤ t from hsz ▸ hge)]
      simp only [Option.bind_some, e]
   simp only [hy]
theorem exec_congr (o : Oper) (hs : ∀ cs b, o.op ≠ .select cs b) (a a' : Act) (h : ∀ t ∈ o.looksAt ops, slot a t = slot a' t) : execOp a.eval o = execOp a'.eval o :=
 execOp_congr o hs fun x hx => by
  cases x with
  | tmp t => exact h t (List.mem_append_left _ (List.mem_filterMap.2 ⟨.tmp t, by simpa using hx, rfl⟩))
  | _ => rfl
def Does (P : Program) (ops : Array Oper) (vals : List (Tmp × Value)) (sf : Nat → List Tmp) (p : Nat → List Value → World → Prop) (B : Nat) (F : Act) (i : Nat) (o : Oper) (w : World) : Prop :=
 if Region.wanted o (yielded ops F.tmps) = true then
  Oper.wp P o F w (fun a' w' => ∃ v, a' = F.put o.dst v ∧ (∀ d u, o.dst = some d → (d, u) ∈ vals → v = u) ∧ p i ((sf i).map (slot a')) w' ∧ Below B w w' ∧
   ∀ j, j ≠ i → j < ops.size → p j ((sf j).map (slot F)) w → p j ((sf j).map (slot F)) w') (fun _ _ _ => False)
 else (∀ d u, o.dst = some d → (d, u) ∈ vals → undef = u) ∧ p i ((sf i).map (slot (F.put o.dst undef))) w
theorem upon_congr {o : Oper} {a F : Act} {K K' : Act → World → Prop} {r : Result Next} (h : ∀ v w, K' (F.put o.dst v) w → K (a.put o.dst v) w)
 (hnd : ∀ d w, ¬ K' (({ F with defers := d :: F.defers } : Act).put o.dst undef) w) (hh : o.upon P F K' (fun _ _ _ => False) r) : o.upon P a K Q r := by
 cases r with
 | ok n w =>
   cases n with
   | value v => exact h _ _ hh
   | skip => exact h _ _ hh
   | defer d => exact absurd hh (hnd d w)
   | enter f args =>
     refine Calls.mono hh ?_
     intro e w' he
     cases e with
     | returned v => exact h _ _ he
     | panicked c => exact (he : False).elim
     | outgrown => obtain ⟨_, _, hf⟩ := he; exact hf.elim
   | row row args =>
     refine Rows.mono hh ?_
     intro u w' he
     exact h _ _ he
   | _ => exact (hh : False).elim
 | halt x w =>
   cases x <;> exact (hh : False).elim
theorem fr_size (a : Act) (vals late : List (Tmp × Value)) (free : List Tmp) (early : Nat → Bool) (i : Nat) (g : Tmp → Value) : (fr a vals late free early i g).tmps.size = a.tmps.size := by
 unfold fr fin
 split <;> rw [putAll_size]
theorem wp_region_run {id : Nat} {a : Act} {w : World} (hm : P.follows .mixedOrders = true) (hs : Region.noSelect ops = true)
 (vals late : List (Tmp × Value)) (free : List Tmp) (sf : Nat → List Tmp) (early : Nat → Bool) (p : Nat → List Value → World → Prop) (n : Nat) (hn : a.tmps.size = n) (hok : plan ops n vals late free sf early = true)
 (B : Nat) (hstep : ∀ i o, ops[i]? = some o → ∀ (g : Tmp → Value) (w' : World), Below B w w' → (∀ j ∈ direct o, p j ((sf j).map (slot (fr a vals late free early i g))) w') → Does P ops (vals ++ late) sf p B (fr a vals late free early i g) i o w')
 (hend : ∀ (g : Tmp → Value) (w' : World), Below B w w' → (∀ i, i < ops.size → p i ((sf i).map (slot (fin a (vals ++ late) free g))) w') → Q .normal (fin a (vals ++ late) free g) w') :
 (Code.region id ops true).wp P Q a w := by
 have hok' := hok
 simp only [plan, Bool.and_eq_true, List.all_eq_true, decide_eq_true_eq, List.contains_iff_mem] at hok
 obtain ⟨⟨⟨⟨hk1, hk2⟩, hnod⟩, hdn⟩, hop⟩ := hok
 have hkeys : ∀ (l : List (Tmp × Value)) (g : Tmp → Value), (l ++ free.map fun t => (t, g t)).map (·.1) = l.map (·.1) ++ free := fun l g => by simp [List.map_map, Function.comp_def]
 have hopi : ∀ i o, ops[i]? = some o → (∀ j ∈ direct o, j < i) ∧ (∀ t ∈ o.looksAt ops, t ∈ dsts ops → t ∈ oldsOf ops late early i ∨ ∃ j ∈ direct o, (ops[j]?).bind (·.dst) = some t) ∧ (∀ t ∈ sf i, t ∈ free ∧ (o.dst = some t ∨ ∃ j ∈ direct o, (ops[j]?).bind (·.dst) = some t)) := by
  intro i o hi
  have := hop i (List.mem_range.2 (Array.getElem?_eq_some_iff.1 hi).1)
  simp only [hi, Bool.and_eq_true, List.all_eq_true, decide_eq_true_eq, Bool.or_eq_true, Bool.not_eq_true', List.any_eq_true, beq_iff_eq] at this
  refine ⟨this.1.1.1, fun t ht hd => ?_, fun t ht => ⟨by simpa using (this.2 t ht).1, (this.2 t ht).2⟩⟩
  rcases this.1.2 t ht with (h | h) | h
  · simp [hd] at h
  · exact .inl (by simpa using h)
  · exact .inr h
 -- the facts of the law
 have hnod1 : (vals.map (·.1) ++ free).Nodup := by
  have h := hnod
  simp only [List.map_append, List.append_assoc] at h
  have h1 := List.nodup_append.1 h
  have h2 := List.nodup_append.1 h1.2.1
  exact List.nodup_append.2 ⟨h1.1, h2.2.1, fun x hx y hy => h1.2.2 x hx y (List.mem_append_right _ hy)⟩
 have hlatefree : ∀ t, t ∈ late.map (·.1) → t ∉ vals.map (·.1) ++ free := by
  intro t ht hm
  have h := hnod
  simp only [List.map_append, List.append_assoc] at h
  have h1 := List.nodup_append.1 h
  have h2 := List.nodup_append.1 h1.2.1
  rcases List.mem_append.1 hm with hv | hf
  · exact h1.2.2 t hv t (List.mem_append_left _ ht) rfl
  · exact h2.2.2 t ht t hf rfl
 -- what slot t holds in the frame of operation i
 have hslot : ∀ (i : Nat) (a' : Act), a'.tmps.size = a.tmps.size → (∀ t, t ∉ dsts ops → slot a' t = slot a t) → ∀ t, (t ∉ dsts ops ∨ t ∈ free ∨ (∃ v, (t, v) ∈ vals ∧ slot a' t = v) ∨ (early i = false ∧ ∃ v, (t, v) ∈ late ∧ slot a' t = v) ∨ (early i = true ∧ t ∈ late.map (·.1) ∧ slot a' t = slot a t)) → slot a' t = slot (fr a vals late free early i (slot a')) t := by
  intro i a' hsz hrest t ht
  have hfree' : t ∈ free → ∀ l, (l.map (·.1) ++ free).Nodup → slot (fin a l free (slot a')) t = slot a' t := by
   intro hf l hl
   rw [fin, putAll_at _ t (slot a' t) a (by rw [hn]; exact (hk1 t (List.mem_append_right _ hf)).1) (by rw [hkeys]; exact hl) (List.mem_append_right _ (List.mem_map.2 ⟨t, hf, rfl⟩))]
  have hval' : ∀ v, (t, v) ∈ vals ++ late → ∀ l, (t, v) ∈ l → (l.map (·.1) ++ free).Nodup → slot (fin a l free (slot a')) t = v := by
   intro v hv l hl hnn
   rw [fin, putAll_at _ t v a (by rw [hn]; exact (hk1 t (List.mem_append_left _ (List.mem_map.2 ⟨_, hv, rfl⟩))).1) (by rw [hkeys]; exact hnn) (List.mem_append_left _ hl)]
  unfold fr
  rcases ht with ht | ht | ⟨v, hv, hs⟩ | ⟨he, v, hv, hs⟩ | ⟨he, ht, hs⟩
  · have no : t ∉ (vals ++ late).map (·.1) ++ free := fun hm => ht (hk1 t hm).2
    have no1 : t ∉ vals.map (·.1) ++ free := fun hm => no (by
     simp only [List.map_append, List.append_assoc]
     rcases List.mem_append.1 hm with h | h
     · exact List.mem_append_left _ h
     · exact List.mem_append_right _ (List.mem_append_right _ h))
    split
    · rw [hrest t ht, fin, putAll_other _ _ _ (by rw [hkeys]; exact no1)]
    · rw [hrest t ht, fin, putAll_other _ _ _ (by rw [hkeys]; exact no)]
  · split
    · exact (hfree' ht _ hnod1).symm
    · exact (hfree' ht _ hnod).symm
  · split
    · rw [hval' v (List.mem_append_left _ hv) vals hv hnod1, hs]
    · rw [hval' v (List.mem_append_left _ hv) _ (List.mem_append_left _ hv) hnod, hs]
  · rw [if_neg (by rw [he]; exact Bool.false_ne_true), hval' v (List.mem_append_right _ hv) _ (List.mem_append_right _ hv) hnod, hs]
  · rw [if_pos he, hs, fin, putAll_other _ _ _ (by rw [hkeys]; exact hlatefree t ht)]
 have hslotE : ∀ (a' : Act), a'.tmps.size = a.tmps.size → (∀ t, t ∉ dsts ops → slot a' t = slot a t) → ∀ t, (t ∉ dsts ops ∨ t ∈ free ∨ ∃ v, (t, v) ∈ vals ++ late ∧ slot a' t = v) → slot a' t = slot (fin a (vals ++ late) free (slot a')) t := by
  intro a' hsz hrest t ht
  rcases ht with ht | ht | ⟨v, hv, hs⟩
  · rw [hrest t ht, fin, putAll_other]
    rw [hkeys]
    intro hm
    exact ht (hk1 t hm).2
  · rw [fin, putAll_at _ t (slot a' t) a (by rw [hn]; exact (hk1 t (List.mem_append_right _ ht)).1) (by rw [hkeys]; exact hnod) (List.mem_append_right _ (List.mem_map.2 ⟨t, ht, rfl⟩))]
  · rw [hs, fin, putAll_at _ t v a (by rw [hn]; exact (hk1 t (List.mem_append_left _ (List.mem_map.2 ⟨_, hv, rfl⟩))).1) (by rw [hkeys]; exact hnod) (List.mem_append_left _ hv)]
 have hallOk : ok ops (seeOf ops sf) (depsOf ops) (oldsOf ops late early) = true := by
  refine List.all_eq_true.2 fun i hi => ?_
  have hlt := List.mem_range.1 hi
  rw [Array.getElem?_eq_getElem hlt]
  obtain ⟨h1, h2, h3⟩ := hopi i ops[i] (Array.getElem?_eq_getElem hlt)
  simp only [okAt, Bool.and_eq_true, List.all_eq_true, decide_eq_true_eq, List.any_eq_true, Bool.or_eq_true, beq_iff_eq]
  have hold : ∀ t ∈ oldsOf ops late early i, ∀ k ∈ List.range ops.size, (match ops[k]? with | some ok => ok.dst != some t || (direct ok).contains i | none => true) = true := by
   have := hop i (List.mem_range.2 hlt)
   rw [Array.getElem?_eq_getElem hlt] at this
   simp only [Bool.and_eq_true, List.all_eq_true] at this
   exact this.1.1.2
  refine ⟨⟨⟨hold, h1⟩, fun j hj => ⟨j, by simpa [depsOf, hlt] using hj, .inl rfl⟩⟩, fun k hk => ?_⟩
  have hklt := List.mem_range.1 hk
  rw [Array.getElem?_eq_getElem hklt]
  cases hd : ops[k].dst with
  | none => simp [hd]
  | some d =>
    simp only [Option.bind_some, hd, Bool.or_eq_true, Bool.not_eq_true', beq_iff_eq, List.contains_iff_mem]
    by_cases hm : d ∈ seeOf ops sf i
    · -- who writes d
      have uniq : ∀ j, (ops[j]?).bind (·.dst) = some d → j = k := by
       intro j hj
       cases hoj : ops[j]? with
       | none => rw [hoj] at hj; cases hj
       | some oj =>
         rw [hoj] at hj
         have hjlt : j < ops.size := (Array.getElem?_eq_some_iff.1 hoj).1
         -- dsts has no doubles
         have key : ∀ (l : List Oper) (x y : Nat) (ox oy : Oper), (l.filterMap (·.dst)).Nodup → l[x]? = some ox → l[y]? = some oy → ox.dst = some d → oy.dst = some d → x = y := by
          intro l
          induction l with
          | nil => intro x y ox oy _ hx; simp at hx
          | cons z l ih =>
            intro x y ox oy hnn hx hy hdx hdy
            have hl : (l.filterMap (·.dst)).Nodup := by
             cases hz : z.dst with
             | none => simpa [List.filterMap_cons, hz] using hnn
             | some dz => rw [List.filterMap_cons_some (h := hz)] at hnn; exact (List.nodup_cons.1 hnn).2
            have hz0 : z.dst = some d → d ∉ l.filterMap (·.dst) := fun hz => by
             rw [List.filterMap_cons_some (h := hz)] at hnn; exact (List.nodup_cons.1 hnn).1
            cases x with
            | zero =>
              cases y with
              | zero => rfl
              | succ y =>
                simp at hx hy; subst hx
                exact absurd (List.mem_filterMap.2 ⟨oy, List.mem_of_getElem? hy, hdy⟩) (hz0 hdx)
            | succ x =>
              cases y with
              | zero =>
                simp at hx hy; subst hy
                exact absurd (List.mem_filterMap.2 ⟨ox, List.mem_of_getElem? hx, hdx⟩) (hz0 hdy)
              | succ y =>
                simp at hx hy
                rw [ih x y ox oy hl hx hy hdx hdy]
         exact key ops.toList j k oj ops[k] hdn (by simpa using hoj) (by simp [hklt]) (by simpa using hj) hd
      unfold seeOf at hm
      rw [Array.getElem?_eq_getElem hlt] at hm
      rcases List.mem_append.1 hm with hm | hm
      · left; right
        have : ops[i].dst = some d := by simpa using hm
        exact (uniq i (by rw [Array.getElem?_eq_getElem hlt]; simpa using this)).symm
      · rcases (h3 d hm).2 with h | ⟨j, hj, hjd⟩
        · left; right
          exact (uniq i (by rw [Array.getElem?_eq_getElem hlt]; simpa using h)).symm
        · right
          have := uniq j hjd
          subst this
          simpa [depsOf, hlt] using hj
    · left; left; simpa using hm
 have hfree : ∀ (d : Tmp) (v : Value), (d, v) ∈ vals ++ late → d ∉ free := by
  intro d v hv hf
  have := (List.nodup_append.1 hnod).2.2 d (List.mem_map.2 ⟨_, hv, rfl⟩) d hf
  exact this rfl
 refine wp_region_facts hm (seeOf ops sf) (depsOf ops) (oldsOf ops late early) (factOf ops (vals ++ late) p) hallOk B ?_ ?_
 · intro i o hi a' w' hsz hrest hold hB hdeps
   obtain ⟨h1, h2, h3⟩ := hopi i o hi
   have hilt : i < ops.size := (Array.getElem?_eq_some_iff.1 hi).1
   have hdepsi : depsOf ops i = direct o := by simp [depsOf, hi]
   -- what j's fact says, of j's own p
   have toP : ∀ j, At (seeOf ops sf) (factOf ops (vals ++ late) p) j a' w' → p j ((sf j).map (slot a')) w' := by
    intro j hj
    unfold At factOf seeOf at hj
    cases hd : (ops[j]?).bind (·.dst) with
    | none => simpa [hd] using hj
    | some d => simp only [hd] at hj; simpa using hj.2
   have exact_of : ∀ j ∈ direct o, ∀ t v, (ops[j]?).bind (·.dst) = some t → (t, v) ∈ vals ++ late → slot a' t = v := by
    intro j hj t v hd hv
    have := hdeps j (by rw [hdepsi]; exact hj)
    unfold At factOf seeOf at this
    simp only [hd] at this
    simpa using this.1 v hv
   have agree : ∀ t ∈ o.looksAt ops, slot a' t = slot (fr a vals late free early i (slot a')) t := by
    intro t ht
    refine hslot i a' hsz hrest t ?_
    by_cases hd : t ∈ dsts ops
    · right
      rcases h2 t ht hd with ho | ⟨j, hj, hjd⟩
      · -- it is read as it was
        right; right; right
        have hs := hold t ho
        unfold oldsOf at ho
        rw [hi] at ho
        simp only at ho
        cases he : early i with
        | false => rw [he] at ho; simp at ho
        | true =>
          rw [he] at ho
          simp only [if_true, List.mem_filter, List.contains_iff_mem] at ho
          exact ⟨rfl, ho.2, hs⟩
      · have hmem : t ∈ (vals ++ late).map (·.1) ++ free := hk2 t hd
        rcases List.mem_append.1 hmem with hv | hf
        · obtain ⟨⟨t', v⟩, hv2, rfl⟩ := List.mem_map.1 hv
          have hs := exact_of j hj _ v hjd hv2
          rcases List.mem_append.1 hv2 with h | h
          · exact .inr (.inl ⟨v, h, hs⟩)
          · -- a late slot, already written: this operation is not early
            cases he : early i with
            | false => exact .inr (.inr (.inl ⟨rfl, v, h, hs⟩))
            | true =>
              exfalso
              -- then it is among the olds, and its writer waits for i: but the writer stands before i
              have hol : t' ∈ oldsOf ops late early i := by
               unfold oldsOf
               rw [hi]
               simp only [he, if_true, List.mem_filter, List.contains_iff_mem]
               exact ⟨ht, List.mem_map.2 ⟨_, h, rfl⟩⟩
              have hjlt : j < ops.size := by have := h1 j hj; omega
              have := hop i (List.mem_range.2 hilt)
              rw [hi] at this
              simp only [Bool.and_eq_true, List.all_eq_true] at this
              have hw := this.1.1.2 t' hol j (List.mem_range.2 hjlt)
              rw [Array.getElem?_eq_getElem hjlt] at hw hjd
              simp only [Option.bind_some] at hjd
              simp only [hjd, bne_self_eq_false, Bool.false_or, List.contains_iff_mem] at hw
              have a1 := (hopi j ops[j] (Array.getElem?_eq_getElem hjlt)).1 i hw
              have a2 := h1 j hj
              omega
        · exact .inl hf
    · exact .inl hd
   have agreeF : ∀ j, (sf j).map (slot (fr a vals late free early i (slot a'))) = (sf j).map (slot a') ∨ j ≥ ops.size := by
    intro j
    rcases Nat.lt_or_ge j ops.size with hj | hj
    · left
      refine List.map_congr_left fun t ht => ?_
      obtain ⟨_, _, h3⟩ := hopi j ops[j] (Array.getElem?_eq_getElem hj)
      exact (hslot i a' hsz hrest t (.inr (.inl (h3 t ht).1))).symm
    · exact .inr hj
   have agreeL : ∀ j, j < ops.size → (sf j).map (slot (fr a vals late free early i (slot a'))) = (sf j).map (slot a') := fun j hj => (agreeF j).resolve_right (by omega)
   have hD := hstep i o hi (slot a') w' hB (fun j hj => by
    have hjlt : j < ops.size := by have := h1 j hj; omega
    rw [agreeL j hjlt]
    exact toP j (hdeps j (by rw [hdepsi]; exact hj)))
   have finish : ∀ (v : Value) (w'' : World), (∀ d u, o.dst = some d → (d, u) ∈ vals ++ late → v = u) → p i ((sf i).map (slot ((fr a vals late free early i (slot a')).put o.dst v))) w'' → Below B w' w'' →
    (∀ j, j ≠ i → j < ops.size → p j ((sf j).map (slot (fr a vals late free early i (slot a')))) w' → p j ((sf j).map (slot (fr a vals late free early i (slot a')))) w'') →
    ∃ v', a'.put o.dst v = a'.put o.dst v' ∧ At (seeOf ops sf) (factOf ops (vals ++ late) p) i (a'.put o.dst v) w'' ∧ Below B w' w'' ∧ ∀ j, j ≠ i → j < ops.size → At (seeOf ops sf) (factOf ops (vals ++ late) p) j a' w' → At (seeOf ops sf) (factOf ops (vals ++ late) p) j a' w'' := by
    intro v w'' hex hp hb hkeep
    have hput : (sf i).map (slot (a'.put o.dst v)) = (sf i).map (slot ((fr a vals late free early i (slot a')).put o.dst v)) := by
     refine List.map_congr_left fun t ht => ?_
     by_cases hd : o.dst = some t
     · have htlt : t < n := (hk1 t (List.mem_append_right _ (h3 t ht).1)).1
       rw [hd, slot_put_same _ _ _ (by rw [hsz, hn]; exact htlt), slot_put_same _ _ _ (by rw [fr_size, hn]; exact htlt)]
     · rw [slot_put_ne _ _ _ _ hd, slot_put_ne _ _ _ _ hd]
       exact hslot i a' hsz hrest t (.inr (.inl (h3 t ht).1))
    refine ⟨v, rfl, ?_, hb, fun j hji hj hat => ?_⟩
    · unfold At factOf seeOf
      simp only [hi, Option.bind_some]
      cases hd : o.dst with
      | none => rw [hd] at hp hput; simp only [Option.toList_none, List.nil_append]; rw [hput]; exact hp
      | some d =>
        rw [hd] at hp hput
        simp only [Option.toList_some, List.cons_append, List.nil_append, List.map_cons, List.head?_cons, List.tail_cons]
        refine ⟨fun u hu => ?_, by rw [hput]; exact hp⟩
        have hdlt : d < n := (hk1 d (List.mem_append_left _ (List.mem_map.2 ⟨_, hu, rfl⟩))).1
        rw [slot_put_same _ _ _ (by rw [hsz, hn]; exact hdlt), hex d u hd hu]
    · have hpj := toP j hat
      have hnew := hkeep j hji hj (by rw [agreeL j hj]; exact hpj)
      rw [agreeL j hj] at hnew
      unfold At factOf seeOf at hat ⊢
      cases hd : (ops[j]?).bind (·.dst) with
      | none => simp only [hd, Option.toList_none, List.nil_append] at hat ⊢; exact hnew
      | some d =>
        simp only [hd] at hat ⊢
        exact ⟨hat.1, by simpa using hnew⟩
   have hsel : ∀ cs b, o.op ≠ .select cs b := fun cs b => Region.noSelect_spec hs i o cs b hi
   unfold wpOp
   simp only [hi]
   unfold Does at hD
   rw [← wanted_congr o a' (fr a vals late free early i (slot a')) (by rw [fr_size, hsz]) agree] at hD
   split
   · rename_i hw
     rw [if_pos hw] at hD
     left
     unfold Oper.wp at hD ⊢
     rw [← exec_congr o hsel a' _ agree] at hD
     refine upon_congr (F := fr a vals late free early i (slot a')) ?_ ?_ hD
     · rintro v w'' ⟨v', he, hex, hp, hb, hkeep⟩
       -- v and v' put the same
       cases hd : o.dst with
       | none =>
         rw [hd] at he hp hex
         have := finish v w'' (by rw [hd]; exact fun d u h => by cases h) (by rw [hd]; exact hp) hb hkeep
         rw [hd] at this
         exact this
       | some d =>
         rw [hd] at he hp
         have hdlt : d < n := (hk1 d (hk2 d (List.mem_filterMap.2 ⟨o, by have := Array.mem_of_getElem? hi; simpa using this, hd⟩))).1
         have hvv : v = v' := by
          have h1 : slot ((fr a vals late free early i (slot a')).put (some d) v) d = slot ((fr a vals late free early i (slot a')).put (some d) v') d := congrArg (fun x => slot x d) he
          rwa [slot_put_same _ _ _ (by rw [fr_size, hn]; exact hdlt), slot_put_same _ _ _ (by rw [fr_size, hn]; exact hdlt)] at h1
         subst hvv
         have := finish v w'' hex (by rw [hd]; exact hp) hb hkeep
         rw [hd] at this
         exact this
     · rintro d w'' ⟨v, he, _⟩
       have h1 := congrArg (fun x => x.defers.length) he
       simp only [defers_put, List.length_cons] at h1
       omega
   · rename_i hw
     rw [if_neg (by simpa using hw)] at hD
     exact finish undef w' hD.1 hD.2 (Below.refl _ _) (fun _ _ _ h => h)
 · intro a' w' hdf hsz hrest hB hall
   have hfin : a' = fin a (vals ++ late) free (slot a') := by
    have ht : a'.tmps = (fin a (vals ++ late) free (slot a')).tmps := by
     refine Array.ext (by rw [fin, putAll_size, hsz]) fun t h1 h2 => ?_
     have hs := hslotE a' hsz hrest t (by
      by_cases hd : t ∈ dsts ops
      · right
        have hmem : t ∈ (vals ++ late).map (·.1) ++ free := hk2 t hd
        rcases List.mem_append.1 hmem with hv | hf
        · right
          obtain ⟨⟨t', v⟩, hv2, rfl⟩ := List.mem_map.1 hv
          obtain ⟨o, ho, hod⟩ := List.mem_filterMap.1 hd
          obtain ⟨i, hi, hoi⟩ := List.mem_iff_getElem.1 ho
          have hi' : i < ops.size := by simpa using hi
          have := hall i hi'
          unfold At factOf seeOf at this
          have hio : ops[i]? = some o := by rw [Array.getElem?_eq_getElem hi']; simpa using hoi
          simp only [hio, Option.bind_some, hod] at this
          exact ⟨v, hv2, by simpa using this.1 v hv2⟩
        · exact .inl hf
      · exact .inl hd)
     simpa [slot, h1, h2] using hs
    have hd : a'.defers = (fin a (vals ++ late) free (slot a')).defers := by rw [hdf, fin, putAll_defers]
    obtain ⟨x, y⟩ := a'
    simp only at ht hd
    cases hF : fin a (vals ++ late) free (slot ⟨x, y⟩) with
    | mk x' y' => rw [hF] at ht hd; simp only at ht hd; rw [ht, hd]
   have hq := hend (slot a') w' hB (fun i hi => by
    have := hall i hi
    rw [← hfin]
    unfold At factOf seeOf at this
    cases hd : (ops[i]?).bind (·.dst) with
    | none => simpa [hd] using this
    | some d => simp only [hd] at this; simpa using this.2)
   rw [← hfin] at hq
   exact hq
def Each (f : Nat → Oper → Prop) : Nat → List Oper → Prop
 | _, [] => True
 | i, o :: l => f i o ∧ Each f (i + 1) l
theorem each_at {f : Nat → Oper → Prop} : ∀ (l : List Oper) (k i : Nat) (o : Oper), Each f k l → l[i]? = some o → f (k + i) o
 | [], _, _, _, _, h => by simp at h
 | x :: l, k, 0, o, h, he => by simp at he; subst he; exact h.1
 | x :: l, k, i + 1, o, h, he => by
   have := each_at l (k + 1) i o h.2 (by simpa using he)
   rwa [Nat.add_assoc, Nat.add_comm 1 i] at this
theorem put_slot (F : Act) (d : Tmp) (v : Value) (h : d < F.tmps.size) (e : F.put (some d) v = F) : slot F d = v := by
 rw [← e, slot_put_same _ _ _ h]
def DoesV (P : Program) (ops : Array Oper) (E F : Act) (o : Oper) (w : World) : Prop :=
 if Region.wanted o (yielded ops E.tmps) = true then Oper.wp P o E w (fun a' w' => ∃ v, a' = E.put o.dst v ∧ F.put o.dst v = F ∧ Below w.heap.size w w') (fun _ _ _ => False)
 else F.put o.dst undef = F
theorem wp_region_late {id : Nat} {a : Act} {w : World} (hm : P.follows .mixedOrders = true) (hs : Region.noSelect ops = true)
 (vals late : List (Tmp × Value)) (early : Nat → Bool) (n : Nat) (hn : a.tmps.size = n) (hok : plan ops n vals late [] (fun _ => []) early = true)
 (hstep : ∀ E F : Act, E = putAll a vals → F = putAll a (vals ++ late) → ∀ w', Below w.heap.size w w' → Each (fun i o => DoesV P ops (if early i then E else F) F o w') 0 ops.toList)
 (hend : ∀ w', Below w.heap.size w w' → Q .normal (putAll a (vals ++ late)) w') :
 (Code.region id ops true).wp P Q a w := by
 have hfin : ∀ g l, fin a l [] g = putAll a l := fun g l => by simp [fin]
 have hok' := hok
 simp only [plan, Bool.and_eq_true, List.all_eq_true, decide_eq_true_eq, List.contains_iff_mem, List.append_nil] at hok
 obtain ⟨⟨⟨⟨hk1, hk2⟩, hnod⟩, hdn⟩, hop⟩ := hok
 refine wp_region_run hm hs vals late [] (fun _ => []) early (fun _ _ _ => True) n hn hok' w.heap.size ?_ ?_
 · intro i o hi g w' hB _
   have hD := each_at ops.toList 0 i o (hstep _ _ rfl rfl w' hB) (by simpa using hi)
   have hfr : fr a vals late [] early i g = if early i then putAll a vals else putAll a (vals ++ late) := by unfold fr; rw [hfin, hfin]
   rw [hfr]
   rw [Nat.zero_add] at hD
   have hex : ∀ (v : Value), (putAll a (vals ++ late)).put o.dst v = putAll a (vals ++ late) → ∀ d u, o.dst = some d → (d, u) ∈ vals ++ late → v = u := by
    intro v hv d u hd hu
    have hdlt : d < n := (hk1 d (List.mem_map.2 ⟨_, hu, rfl⟩)).1
    rw [hd] at hv
    have h1 := put_slot _ d v (by rw [putAll_size, hn]; exact hdlt) hv
    rw [← h1, putAll_at (vals ++ late) d u a (by rw [hn]; exact hdlt) hnod hu]
   generalize (if early i = true then putAll a vals else putAll a (vals ++ late)) = E at hD ⊢
   unfold DoesV at hD
   unfold Does
   split
   · rename_i hw
     rw [if_pos hw] at hD
     unfold Oper.wp at hD ⊢
     refine upon_congr (F := E) ?_ ?_ hD
     · rintro v w'' ⟨v', he, hF, hb⟩
       refine ⟨v', he, hex v' hF, trivial, hb.mono (by have := hB.size; omega), fun _ _ _ h => h⟩
     · rintro d w'' ⟨v, he, _⟩
       have h1 := congrArg (fun x => x.defers.length) he
       simp only [defers_put, List.length_cons] at h1
       omega
   · rename_i hw
     rw [if_neg hw] at hD
     exact ⟨hex undef hD, trivial⟩
 · intro g w' hB _
   rw [hfin]
   exact hend w' hB
theorem wp_region_vals {id : Nat} {a : Act} {w : World} (hm : P.follows .mixedOrders = true) (hs : Region.noSelect ops = true)
 (vals : List (Tmp × Value)) (n : Nat) (hn : a.tmps.size = n) (hok : plan ops n vals [] [] (fun _ => []) (fun _ => false) = true)
 (hstep : ∀ F : Act, F = putAll a vals → ∀ w', Below w.heap.size w w' → Each (fun _ o => DoesV P ops F F o w') 0 ops.toList)
 (hend : ∀ w', Below w.heap.size w w' → Q .normal (putAll a vals) w') :
 (Code.region id ops true).wp P Q a w := by
 refine wp_region_late hm hs vals [] (fun _ => false) n hn hok ?_ ?_
 · intro E F _ hF w' hB
   rw [List.append_nil] at hF
   exact hstep F hF w' hB
 · intro w' hB
   rw [List.append_nil]
   exact hend w' hB
theorem doesV_val {E F : Act} {o : Oper} {w : World} {v : Value} (hr : (execOp E.eval o).run P w = .ok (.value v) w) (hw : Region.wanted o (yielded ops E.tmps) = true) (hF : F.put o.dst v = F) : DoesV P ops E F o w := by
 unfold DoesV
 rw [if_pos hw]
 unfold Oper.wp
 rw [hr]
 exact ⟨v, rfl, hF, Below.refl _ _⟩
theorem doesV_call {E F : Act} {o : Oper} {w : World} {v : Value} {f : FuncId} {args : Array Value} (hc : Calls P f args w fun e w' => e = .returned v ∧ Below w.heap.size w w')
 (hr : (execOp E.eval o).run P w = .ok (.enter f args) w) (hw : Region.wanted o (yielded ops E.tmps) = true) (hF : F.put o.dst v = F) : DoesV P ops E F o w := by
 unfold DoesV
 rw [if_pos hw]
 unfold Oper.wp
 rw [hr]
 refine Calls.mono hc ?_
 rintro e w' ⟨rfl, hb⟩
 exact ⟨v, rfl, hF, hb⟩
end
end Reg
end Go.Proofs.YtamekagminbejaaGreatDoor
namespace Go.Proofs.YtamekagminbejaaGreatDoor
open Go Go.RowKit
structure Val where
 k : Int
 n : Int
 s : ByteArray
abbrev emp : ByteArray := ⟨#[]⟩
abbrev Val.v (a : Val) : Value := .agg #[.int .i64 a.k, .int .i64 a.n, .string a.s]
def Val.eq (a b : Val) : Bool := decide (a.k = b.k) && (decide (a.n = b.n) && decide (a.s.toList = b.s.toList))
theorem toList_inj {a b : ByteArray} (h : a.toList = b.toList) : a = b := by
 rw [ByteArray.toList_eq, ByteArray.toList_eq] at h
 obtain ⟨⟨x⟩⟩ := a
 obtain ⟨⟨y⟩⟩ := b
 simp at h
 rw [h]
theorem Val.eq_iff {a b : Val} : a.eq b = true ↔ a = b := by
 obtain ⟨k, n, s⟩ := a
 obtain ⟨k', n', s'⟩ := b
 simp only [Val.eq, Bool.and_eq_true, decide_eq_true_eq, Val.mk.injEq]
 constructor
 · rintro ⟨h1, h2, h3⟩; exact ⟨h1, h2, toList_inj h3⟩
 · rintro ⟨h1, h2, h3⟩; exact ⟨h1, h2, by rw [h3]⟩
theorem Val.eq_self (a : Val) : a.eq a = true := Val.eq_iff.2 rfl
theorem Val.eq_false {a b : Val} (h : a ≠ b) : a.eq b = false := by
 cases e : a.eq b
 · rfl
 · exact absurd (Val.eq_iff.1 e) h
def tt : Val := ⟨1, 1, emp⟩
def ff : Val := ⟨1, 0, emp⟩
def nl : Val := ⟨0, 0, emp⟩
def tv (b : Bool) : Val := if b then tt else ff
def iv (n : Int) : Val := ⟨2, n, emp⟩
theorem run_eqIn (w : World) (k n k' n' : Int) (s s' : ByteArray) : (Op.equalIn 10000 81 (.agg #[.int .i64 k, .int .i64 n, .string s]) (.agg #[.int .i64 k', .int .i64 n', .string s'])).run Tryz.prog w = .ok (Val.eq ⟨k, n, s⟩ ⟨k', n', s'⟩) w := by
 simp [go_sem, Tryz.underlying81, Tryz.underlying3, Tryz.underlying9]
 by_cases h1 : k = k' <;> by_cases h2 : n = n' <;> by_cases h3 : s.toList = s'.toList <;> simp [Val.eq, h1, h2, h3]
theorem run_eqV (w : World) (k n k' n' : Int) (s s' : ByteArray) : (binOp .eql 81 (.agg #[.int .i64 k, .int .i64 n, .string s]) (.agg #[.int .i64 k', .int .i64 n', .string s'])).run Tryz.prog w = .ok (.bool (Val.eq ⟨k, n, s⟩ ⟨k', n', s'⟩)) w := by
 rw [run_eql_struct, run_eqIn]; rfl
theorem run_neV (w : World) (k n k' n' : Int) (s s' : ByteArray) : (binOp .neq 81 (.agg #[.int .i64 k, .int .i64 n, .string s]) (.agg #[.int .i64 k', .int .i64 n', .string s'])).run Tryz.prog w = .ok (.bool !(Val.eq ⟨k, n, s⟩ ⟨k', n', s'⟩)) w := by
 rw [run_neq_struct, run_eqIn]; rfl
theorem mixed : Tryz.prog.follows .mixedOrders = true := by kernel_rfl
theorem ev_move {P : Program} {F : Act} {w : World} {x : Operand} {o : Oper} (ho : o.op = .move x) : (execOp F.eval o).run P w = .ok (.value (F.eval x)) w := by
 simp [execOp, ho]
theorem ev_assign {P : Program} {F : Act} {w : World} {x : Operand} {o : Oper} (ho : o.op = .assign x) : (execOp F.eval o).run P w = .ok (.value (F.eval x)) w := by
 simp [execOp, ho]
theorem ev_call {F : Act} {w : World} {f : FuncId} {args : Array Operand} {ats : Array TypeId} {vs : Array Value} {o : Oper} (hE : ∀ args w, (callFunc f args).run Tryz.prog w = .ok (.enter f args) w)
 (ho : o.op = .call { callee := .value (.func f), args := args, argTypes := ats }) (hv : args.map F.eval = vs) : (execOp F.eval o).run Tryz.prog w = .ok (.enter f vs) w := by
 have h := hE (args.map F.eval) w
 subst hv
 simp [execOp, ho, resolve, go_sem, h]
theorem below_one (w : World) (o : Obj) : Below w.heap.size w (w.alloc o) := (Below.refl _ _).alloc (Nat.le_refl _) _
theorem below_two (w : World) (o o' : Obj) : Below w.heap.size w ((w.alloc o).alloc o') := (below_one _ _).alloc (by simp) _
theorem ev_extract {P : Program} {F : Act} {w : World} {t : Tmp} {k : Nat} {vs : Array Value} {v : Value} {o : Oper} (ho : o.op = .extract (.tmp t) k) (ht : Reg.slot F t = .tuple vs) (hv : vs[k]? = some v) :
 (execOp F.eval o).run P w = .ok (.value v) w := by
 have e1 : F.eval (.tmp t) = .tuple vs := ht
 simp only [execOp, ho, e1, Sem.run_bind, Instr.extract, hv, Sem.run_pure, Result.andThen_ok]
def mayB (x : Val) : Bool := if x.k == 0 then x.n == 0 && x.s.toList.isEmpty else if x.k == 1 then (x.n == 0 || x.n == 1) && x.s.toList.isEmpty else if x.k == 2 then x.s.toList.isEmpty else if x.k == 3 then x.n == 0 && decide (x.s.size ≤ 1000) else false
def Valid (x : Val) : Prop := (x.k = 0 ∧ x.n = 0 ∧ x.s = emp) ∨ (x.k = 1 ∧ (x.n = 0 ∨ x.n = 1) ∧ x.s = emp) ∨ (x.k = 2 ∧ x.s = emp) ∨ (x.k = 3 ∧ x.n = 0 ∧ x.s.size ≤ 1000)
def rmB (x : Val) : Bool := if x.k == 0 || x.k == 1 then x.s.toList.isEmpty && decide (0 ≤ x.n) && decide (x.n ≤ x.k) else if x.k == 2 then x.s.toList.isEmpty else x.k == 3 && x.n == 0 && decide (x.s.size ≤ 1000)
theorem emp_of {s : ByteArray} (h : s.toList.isEmpty = true) : s = emp := by
 rw [ByteArray.toList_eq] at h
 obtain ⟨⟨l⟩⟩ := s
 simp at h
 rw [h]
theorem valid_of (x : Val) (h : rmB x = true) : Valid x := by
 unfold rmB at h
 unfold Valid
 by_cases h01 : x.k = 0 ∨ x.k = 1
 · have e : (x.k == 0 || x.k == 1) = true := by simpa using h01
   rw [e] at h
   simp only [if_true, Bool.and_eq_true, decide_eq_true_eq] at h
   have hs := emp_of h.1.1
   rcases h01 with hk | hk
   · exact .inl ⟨hk, by omega, hs⟩
   · exact .inr (.inl ⟨hk, by omega, hs⟩)
 · have e : (x.k == 0 || x.k == 1) = false := by simpa using h01
   rw [e] at h
   simp only [Bool.false_eq_true, if_false] at h
   by_cases h2 : x.k = 2
   · have e2 : (x.k == 2) = true := by simpa using h2
     rw [e2] at h
     exact .inr (.inr (.inl ⟨h2, emp_of h⟩))
   · have e2 : (x.k == 2) = false := by simpa using h2
     rw [e2] at h
     simp only [Bool.false_eq_true, if_false, Bool.and_eq_true, beq_iff_eq, decide_eq_true_eq] at h
     exact .inr (.inr (.inr ⟨h.1.1, h.1.2, h.2⟩))
theorem valid_of_may (x : Val) (h : mayB x = true) : Valid x := by
 unfold mayB at h
 by_cases h0 : x.k = 0
 · simp only [h0, beq_self_eq_true, if_true, Bool.and_eq_true, beq_iff_eq] at h
   exact .inl ⟨h0, h.1, emp_of h.2⟩
 by_cases h1 : x.k = 1
 · simp [h1] at h
   exact .inr (.inl ⟨h1, h.1, emp_of (by simpa using h.2)⟩)
 by_cases h2 : x.k = 2
 · simp [h2] at h
   exact .inr (.inr (.inl ⟨h2, emp_of (by simpa using h)⟩))
 by_cases h3 : x.k = 3
 · simp [h3] at h
   exact .inr (.inr (.inr ⟨h3, h⟩))
 simp [h0, h1, h2, h3] at h
set_option maxHeartbeats 1000000 in
theorem may_null (x : Val) (w : World) (h : (x.k == 0) = true) : Calls Tryz.prog 163 #[x.v] w fun e w' => e = .returned (.bool (x.n == 0 && x.s.toList.isEmpty)) ∧ Below w.heap.size w w' := by
 cases hn : x.n == 0
 all_goals
  go_enter Tryz.func163, Tryz.ntmps163
  go_wp2
  go_ret
  exact ⟨rfl, below_one _ _⟩
set_option maxHeartbeats 1000000 in
theorem may_bool (x : Val) (w : World) (h0 : (x.k == 0) = false) (h : (x.k == 1) = true) : Calls Tryz.prog 163 #[x.v] w fun e w' => e = .returned (.bool ((x.n == 0 || x.n == 1) && x.s.toList.isEmpty)) ∧ Below w.heap.size w w' := by
 cases hn : x.n == 0
 · cases hn1 : x.n == 1
   all_goals
    go_enter Tryz.func163, Tryz.ntmps163
    go_wp2
    go_ret
    exact ⟨rfl, below_one _ _⟩
 · go_enter Tryz.func163, Tryz.ntmps163
   go_wp2
   go_ret
   exact ⟨rfl, below_one _ _⟩
set_option maxHeartbeats 1000000 in
theorem may_int (x : Val) (w : World) (h0 : (x.k == 0) = false) (h1 : (x.k == 1) = false) (h : (x.k == 2) = true) : Calls Tryz.prog 163 #[x.v] w fun e w' => e = .returned (.bool x.s.toList.isEmpty) ∧ Below w.heap.size w w' := by
 go_enter Tryz.func163, Tryz.ntmps163
 go_wp2
 go_ret
 exact ⟨rfl, below_one _ _⟩
set_option maxHeartbeats 1000000 in
theorem may_text (x : Val) (w : World) (h0 : (x.k == 0) = false) (h1 : (x.k == 1) = false) (h2 : (x.k == 2) = false) (h : (x.k == 3) = true) (hs : x.s.size ≤ maxLen) : Calls Tryz.prog 163 #[x.v] w fun e w' => e = .returned (.bool (x.n == 0 && decide (x.s.size ≤ 1000))) ∧ Below w.heap.size w w' := by
 unfold maxLen at hs
 cases hn : x.n == 0
 · go_enter Tryz.func163, Tryz.ntmps163
   go_wp2
   go_ret
   exact ⟨rfl, below_one _ _⟩
 · by_cases hz : x.s.size ≤ 1000
   · have hz' : decide (x.s.size ≤ 1000) = true := decide_eq_true hz
     have hz2 : decide ((x.s.size : Int) ≤ 1000) = true := decide_eq_true (by omega)
     go_enter Tryz.func163, Tryz.ntmps163
     go_wp2
     go_ret
     exact ⟨by rw [hz']; rfl, below_one _ _⟩
   · have hz' : decide (x.s.size ≤ 1000) = false := decide_eq_false hz
     have hz2 : decide ((x.s.size : Int) ≤ 1000) = false := decide_eq_false (by omega)
     go_enter Tryz.func163, Tryz.ntmps163
     go_wp2
     go_ret
     exact ⟨by rw [hz']; rfl, below_one _ _⟩
set_option maxHeartbeats 1000000 in
theorem may_other (x : Val) (w : World) (h0 : (x.k == 0) = false) (h1 : (x.k == 1) = false) (h2 : (x.k == 2) = false) (h3 : (x.k == 3) = false) : Calls Tryz.prog 163 #[x.v] w fun e w' => e = .returned (.bool false) ∧ Below w.heap.size w w' := by
 go_enter Tryz.func163, Tryz.ntmps163
 go_wp2
 go_ret
 exact ⟨rfl, below_one _ _⟩
theorem may_c (x : Val) (w : World) (hs : x.s.size ≤ maxLen) : Calls Tryz.prog 163 #[x.v] w fun e w' => e = .returned (.bool (mayB x)) ∧ Below w.heap.size w w' := by
 unfold mayB
 cases h0 : x.k == 0
 · cases h1 : x.k == 1
   · cases h2 : x.k == 2
     · cases h3 : x.k == 3
       · exact may_other x w h0 h1 h2 h3
       · exact may_text x w h0 h1 h2 h3 hs
     · exact may_int x w h0 h1 h2
   · exact may_bool x w h0 h1
 · exact may_null x w h0
end Go.Proofs.YtamekagminbejaaGreatDoor
namespace Go.Proofs.YtamekagminbejaaGreatDoor
open Go
def sub1 (c : UInt8) (new : List UInt8) : List UInt8 → List UInt8
 | [] => []
 | b :: l => if b = c then new ++ sub1 c new l else b :: sub1 c new l
theorem index_nil (c : UInt8) : Lib.index [] [c] = -1 := rfl
theorem index_same (c : UInt8) (l : List UInt8) : Lib.index (c :: l) [c] = 0 := by simp [Lib.index]
theorem index_other (b c : UInt8) (l : List UInt8) (h : b ≠ c) : Lib.index (b :: l) [c] = if Lib.index l [c] == -1 then -1 else Lib.index l [c] + 1 := by
 rw [Lib.index]
 have : ([c].isPrefixOf (b :: l)) = false := by simp [List.isPrefixOf]; exact fun e => h e.symm
 rw [this]; rfl
theorem replaceK_nil (c : UInt8) (new : List UInt8) : ∀ k, Lib.replaceK [c] new k [] = []
 | 0 => rfl
 | k + 1 => by rw [Lib.replaceK, index_nil]; rfl
theorem replaceK_same (c : UInt8) (new l : List UInt8) (k : Nat) : Lib.replaceK [c] new (k + 1) (c :: l) = new ++ Lib.replaceK [c] new k l := by
 rw [Lib.replaceK_hit [c] new k (c :: l) 0 (index_same c l)]
 simp
theorem replaceK_other (b c : UInt8) (new l : List UInt8) (h : b ≠ c) : ∀ k, Lib.replaceK [c] new k (b :: l) = b :: Lib.replaceK [c] new k l
 | 0 => rfl
 | k + 1 => by
   have hge := Lib.index_ge l [c]
   by_cases hm : Lib.index l [c] = -1
   · have e1 : Lib.index (b :: l) [c] = -1 := by rw [index_other b c l h, hm]; rfl
     rw [Lib.replaceK, Lib.replaceK, e1, hm]; rfl
   · have hne : (Lib.index l [c] == -1) = false := by simpa using hm
     obtain ⟨i, hi⟩ : ∃ i : Nat, Lib.index l [c] = i := ⟨(Lib.index l [c]).toNat, by omega⟩
     have e1 : Lib.index (b :: l) [c] = ((i + 1 : Nat) : Int) := by rw [index_other b c l h, hne, hi]; simp
     rw [Lib.replaceK_hit [c] new k (b :: l) (i + 1) e1, Lib.replaceK_hit [c] new k l i hi]
     have e : i + 1 + [c].length = (i + [c].length) + 1 := by simp
     rw [e, List.drop_succ_cons, List.take_succ_cons]
     simp
theorem replaceK_sub1 (c : UInt8) (new : List UInt8) : ∀ (s : List UInt8) (k : Nat), s.count c ≤ k → Lib.replaceK [c] new k s = sub1 c new s
 | [], k, _ => replaceK_nil c new k
 | b :: l, k, h => by
   by_cases e : b = c
   · subst e
     rw [List.count_cons_self] at h
     obtain ⟨k, rfl⟩ : ∃ j, k = j + 1 := ⟨k - 1, by omega⟩
     rw [replaceK_same, replaceK_sub1 b new l k (by omega), sub1, if_pos rfl]
   · rw [List.count_cons_of_ne e] at h
     rw [replaceK_other b c new l e, replaceK_sub1 c new l k h, sub1, if_neg e]
theorem replaceAll_sub1 (c : UInt8) (new s : List UInt8) (h : [c] ≠ new) : Lib.replaceAll s [c] new = sub1 c new s := by
 have hne : ([c] == new) = false := by simpa using h
 unfold Lib.replaceAll Lib.replace
 rw [hne]
 simp only [Bool.false_eq_true, if_false]
 refine replaceK_sub1 c new s _ ?_
 unfold Lib.replaceNum
 rw [if_pos (.inl (by decide)), Lib.count_one]
 exact Nat.le_refl _
theorem sub1_length (c : UInt8) (new : List UInt8) : ∀ s : List UInt8, (sub1 c new s).length ≤ s.length * (new.length + 1)
 | [] => by simp [sub1]
 | b :: l => by
   have ih := sub1_length c new l
   rw [sub1, List.length_cons, Nat.add_mul, Nat.one_mul]
   by_cases e : b = c
   · rw [if_pos e, List.length_append]; omega
   · rw [if_neg e, List.length_cons]; omega
end Go.Proofs.YtamekagminbejaaGreatDoor
namespace Go.Proofs.YtamekagminbejaaGreatDoor
open Go
def num (l : List UInt8) : Nat := l.foldl (fun a c => a * 10 + (c.toNat - 48)) 0
theorem num_snoc (l : List UInt8) (c : UInt8) : num (l ++ [c]) = num l * 10 + (c.toNat - 48) := by simp [num]
theorem dig_toNat (k : Nat) (h : k < 10) : (UInt8.ofNat (48 + k)).toNat = 48 + k := by
 rw [UInt8.toNat_ofNat']; omega
theorem num_dec (u : Nat) : num (Lib.decDigits u) = u := by
 induction u using Nat.strongRecOn with
 | _ u ih =>
   rw [Lib.decDigits]
   by_cases h : u < 10
   · rw [dif_pos h]
     simp [num]; omega
   · rw [dif_neg h, num_snoc, ih (u / 10) (by omega), dig_toNat (u % 10) (by omega)]
     omega
theorem dec_head (u : Nat) : ∃ c l, Lib.decDigits u = c :: l ∧ 48 ≤ c.toNat ∧ c.toNat ≤ 57 := by
 induction u using Nat.strongRecOn with
 | _ u ih =>
   rw [Lib.decDigits]
   by_cases h : u < 10
   · rw [dif_pos h]
     exact ⟨_, [], rfl, by rw [dig_toNat u h]; omega, by rw [dig_toNat u h]; omega⟩
   · rw [dif_neg h]
     obtain ⟨c, l, hl, h1, h2⟩ := ih (u / 10) (by omega)
     exact ⟨c, l ++ _, by rw [hl]; rfl, h1, h2⟩
def textL (x : Val) : List UInt8 :=
 if x.k == 0 then [110, 117, 108, 108] else if x.k == 1 then (if x.n == 0 then [102, 97, 108, 115, 101] else [116, 114, 117, 101]) else if x.k == 2 then Lib.itoa x.n else if x.k == 3 then [39] ++ sub1 39 [39, 39] x.s.data.toList ++ [39] else [63]
def Stop (r : List UInt8) : Prop := r = [] ∨ ∃ l, r = 44 :: l
theorem dec_all (u : Nat) : ∀ c ∈ Lib.decDigits u, 48 ≤ c.toNat ∧ c.toNat ≤ 57 := by
 induction u using Nat.strongRecOn with
 | _ u ih =>
   rw [Lib.decDigits]
   by_cases h : u < 10
   · rw [dif_pos h]
     intro c hc
     simp only [List.mem_singleton] at hc
     subst hc
     rw [dig_toNat u h]; omega
   · rw [dif_neg h]
     intro c hc
     rcases List.mem_append.1 hc with hc | hc
     · exact ih (u / 10) (by omega) c hc
     · simp only [List.mem_singleton] at hc
       subst hc
       rw [dig_toNat (u % 10) (by omega)]; omega
theorem sub1_le (c : UInt8) : ∀ l : List UInt8, (sub1 c [c, c] l).length ≤ 2 * l.length
 | [] => Nat.le_refl _
 | b :: l => by
   rw [sub1]
   have := sub1_le c l
   split <;> simp <;> omega
theorem dec_len (u : Nat) (k : Nat) (h : u < 10 ^ (k + 1)) : (Lib.decDigits u).length ≤ k + 1 := by
 induction k generalizing u with
 | zero =>
   rw [Lib.decDigits, dif_pos (by simpa using h)]
   simp
 | succ k ih =>
   rw [Lib.decDigits]
   by_cases h10 : u < 10
   · rw [dif_pos h10]; simp
   · rw [dif_neg h10]
     have : u / 10 < 10 ^ (k + 1) := by
      rw [Nat.pow_succ] at h
      exact (Nat.div_lt_iff_lt_mul (by decide)).2 h
     have := ih (u / 10) this
     simp
     omega
theorem itoa_len (a : Int) (h : -9223372036854775808 ≤ a ∧ a ≤ 9223372036854775807) : (Lib.itoa a).length ≤ 21 := by
 unfold Lib.itoa
 split
 · rw [List.length_cons]
   exact Nat.succ_le_succ (dec_len _ 19 (by omega))
 · exact Nat.le_trans (dec_len _ 19 (by omega)) (by decide)
theorem text_len (x : Val) (hn : -9223372036854775808 ≤ x.n ∧ x.n ≤ 9223372036854775807) (hs : x.s.size ≤ 2000) : (textL x).length ≤ 5000 := by
 unfold textL
 split
 · simp
 split
 · split <;> simp
 split
 · have := itoa_len x.n hn
   omega
 split
 · have h1 := sub1_le 39 x.s.data.toList
   have h2 : x.s.data.toList.length = x.s.size := rfl
   simp only [List.length_append, List.length_cons, List.length_nil]
   omega
 · simp
end Go.Proofs.YtamekagminbejaaGreatDoor
namespace Go.Proofs.YtamekagminbejaaGreatDoor
open Go
structure Tk where
 k : Int
 t : ByteArray
 v : Val
def Tk.eq (a b : Tk) : Bool := decide (a.k = b.k) && (decide (a.t.toList = b.t.toList) && a.v.eq b.v)
theorem Tk.eq_iff {a b : Tk} : a.eq b = true ↔ a = b := by
 obtain ⟨k, t, v⟩ := a
 obtain ⟨k', t', v'⟩ := b
 simp only [Tk.eq, Bool.and_eq_true, decide_eq_true_eq, Tk.mk.injEq, Val.eq_iff]
 constructor
 · rintro ⟨h1, h2, h3⟩; exact ⟨h1, toList_inj h2, h3⟩
 · rintro ⟨h1, h2, h3⟩; exact ⟨h1, by rw [h2], h3⟩
abbrev ba (l : List UInt8) : ByteArray := ⟨l.toArray⟩
theorem ba_of (s : ByteArray) : ba s.data.toList = s := by obtain ⟨⟨l⟩⟩ := s; rfl
def tk0 : Tk := ⟨0, emp, nl⟩
def intT (n : Int) : Tk := ⟨1, emp, iv n⟩
def strT (l : List UInt8) : Tk := ⟨1, emp, ⟨3, 0, ba l⟩⟩
def sgnT (l : List UInt8) : Tk := ⟨2, ba l, nl⟩
def wrdT (l : List UInt8) : Tk := ⟨0, ba l, nl⟩
def sgns : List UInt8 := [40, 41, 91, 93, 44, 61, 60, 43, 45, 42, 63]
def cls (b : UInt8) : Int :=
 if b.toNat = 32 then 1 else if 97 ≤ b.toNat ∧ b.toNat ≤ 122 then 2 else if 48 ≤ b.toNat ∧ b.toNat ≤ 57 then 3 else if b.toNat = 95 then 4 else if b.toNat = 39 then 5 else if b.toNat = 45 then 6 else if 0 ≤ Lib.indexByte sgns b then 7 else 0
theorem cls_1 {b : UInt8} : cls b = 1 ↔ b.toNat = 32 := by 
 unfold cls
 repeat' split
 all_goals (first | omega | simp_all)
theorem cls_2 {b : UInt8} : cls b = 2 ↔ 97 ≤ b.toNat ∧ b.toNat ≤ 122 := by 
 unfold cls
 repeat' split
 all_goals (first | omega | simp_all)
theorem cls_3 {b : UInt8} : cls b = 3 ↔ 48 ≤ b.toNat ∧ b.toNat ≤ 57 := by 
 unfold cls
 repeat' split
 all_goals (first | omega | simp_all)
theorem cls_5 {b : UInt8} : cls b = 5 ↔ b.toNat = 39 := by 
 unfold cls
 repeat' split
 all_goals (first | omega | simp_all)
theorem indexByte_mem : ∀ (l : List UInt8) (c : UInt8), 0 ≤ Lib.indexByte l c ↔ c ∈ l
 | [], c => by simp [Lib.indexByte]
 | b :: l, c => by
   have ih := indexByte_mem l c
   have hge := Lib.indexByte_ge l c
   rw [Lib.indexByte]
   by_cases h : b = c
   · subst h; simp
   · have hb : (b == c) = false := by simpa using h
     rw [hb]
     simp only [Bool.false_eq_true, if_false, List.mem_cons]
     by_cases hm : Lib.indexByte l c = -1
     · have : c ∉ l := fun hc => by have := ih.2 hc; omega
       rw [hm]
       have hcb : ¬c = b := fun e => h e.symm
       simp [this, hcb]
     · have hne : (Lib.indexByte l c == -1) = false := by simpa using hm
       rw [hne]
       have hc : c ∈ l := ih.1 (by omega)
       simp [hc]
       omega
theorem byte_of {b : UInt8} {n : Nat} (h : b.toNat = n) : b = UInt8.ofNat n := by rw [← h]; simp
def isIn (cs : List Int) (b : UInt8) : Bool := cs.contains (cls b)
abbrev dig : UInt8 → Bool := isIn [3]
abbrev inn : UInt8 → Bool := isIn [2, 3, 4]
abbrev blk : UInt8 → Bool := isIn [1]
theorem dig_iff {b : UInt8} : dig b = true ↔ 48 ≤ b.toNat ∧ b.toNat ≤ 57 := by
 rw [← cls_3]; simp [dig, isIn]
theorem blk_iff {b : UInt8} : blk b = true ↔ b.toNat = 32 := by
 rw [← cls_1]; simp [blk, isIn]
theorem inn_iff {b : UInt8} : inn b = true ↔ cls b = 2 ∨ cls b = 3 ∨ cls b = 4 := by simp [inn, isIn]
def numT (w : List UInt8) : Option Tk := match Lib.atoiAll w with
 | .ok v => if Lib.itoa v = w then some (intT v) else none
 | _ => none
def quoF : Bool → List UInt8 → Option (List UInt8 × List UInt8)
 | false, [] => none
 | true, [] => some ([], [])
 | false, c :: r => if c = 39 then quoF true r else (quoF false r).map fun p => (c :: p.1, p.2)
 | true, c :: r => if c = 39 then (quoF false r).map fun p => (39 :: p.1, p.2) else some ([], c :: r)
def tokL : List UInt8 → Option (Tk × List UInt8)
 | [] => none
 | c :: r =>
   if cls c = 2 then some (wrdT ((c :: r).takeWhile inn), (c :: r).dropWhile inn)
   else if cls c = 3 then (numT ((c :: r).takeWhile dig)).map fun t => (t, (c :: r).dropWhile dig)
   else if cls c = 5 then (quoF false r).map fun p => (strT p.1, p.2)
   else if cls c = 6 then (if r.takeWhile dig = [] then some (sgnT [c], r) else (numT (c :: r.takeWhile dig)).map fun t => (t, r.dropWhile dig))
   else if cls c = 7 then some (sgnT [c], r)
   else none
def wordB (l : List UInt8) : Bool := match l with
 | [] => false
 | c :: r => decide ((c :: r).length ≤ 30) && (decide (cls c = 2) && (c :: r).all inn)
def signB (l : List UInt8) : Bool := match l with
 | [c] => decide (c ∈ sgns)
 | _ => false
def mayT (t : Tk) : Bool :=
 if t.k == 0 then wordB t.t.data.toList && t.v.eq nl
 else if t.k == 1 then t.t.toList.isEmpty && ((t.v.k == 2 || t.v.k == 3) && mayB t.v)
 else if t.k == 2 then signB t.t.data.toList && t.v.eq nl else false
def lexF : Nat → List UInt8 → Option (List Tk)
 | 0, _ => some []
 | _ + 1, [] => some []
 | n + 1, c :: r => if cls c = 1 then lexF n r else match tokL (c :: r) with
   | none => none
   | some (t, q) => if mayT t then (lexF n q).map (t :: ·) else none
def lexL (l : List UInt8) : Option (List Tk) := lexF l.length l
def txtT (t : Tk) : List UInt8 := if t.k == 1 then textL t.v else t.t.data.toList
def printL (l : List Tk) : List UInt8 := Lib.join (l.map txtT) [32]
theorem drop_le (p : UInt8 → Bool) (l : List UInt8) : (l.dropWhile p).length ≤ l.length := by
 have := congrArg List.length (List.takeWhile_append_dropWhile (p := p) (l := l))
 rw [List.length_append] at this
 omega
theorem quo_le : ∀ (l : List UInt8) (b : Bool) (u r : List UInt8), quoF b l = some (u, r) → r.length ≤ l.length
 | [], false, u, r, h => by simp [quoF] at h
 | [], true, u, r, h => by simp [quoF] at h; simp [h.2]
 | c :: l, false, u, r, h => by
   rw [quoF] at h
   split at h
   · have := quo_le l true u r h; simp; omega
   · cases e : quoF false l with
     | none => rw [e] at h; cases h
     | some p =>
       rw [e] at h
       simp at h
       have := quo_le l false p.1 p.2 e
       rw [h.2] at this; simp; omega
 | c :: l, true, u, r, h => by
   rw [quoF] at h
   split at h
   · cases e : quoF false l with
     | none => rw [e] at h; cases h
     | some p =>
       rw [e] at h
       simp at h
       have := quo_le l false p.1 p.2 e
       rw [h.2] at this; simp; omega
   · simp at h; rw [← h.2]; simp
theorem tok_lt {l : List UInt8} {t : Tk} {r : List UInt8} (h : tokL l = some (t, r)) : r.length < l.length := by
 cases l with
 | nil => cases h
 | cons c l =>
   rw [tokL] at h
   split at h
   · rename_i hc
     have hi : inn c = true := inn_iff.2 (.inl hc)
     simp only [Option.some.injEq, Prod.mk.injEq] at h
     rw [← h.2, List.dropWhile_cons, hi]
     have := drop_le inn l
     simp; omega
   split at h
   · rename_i hc
     have hi : dig c = true := dig_iff.2 (cls_3.1 hc)
     cases e : numT ((c :: l).takeWhile dig) with
     | none => rw [e] at h; cases h
     | some q =>
       rw [e] at h
       simp only [Option.map_some, Option.some.injEq, Prod.mk.injEq] at h
       rw [← h.2, List.dropWhile_cons, hi]
       have := drop_le dig l
       simp; omega
   split at h
   · cases e : quoF false l with
     | none => rw [e] at h; cases h
     | some q =>
       rw [e] at h
       simp only [Option.map_some, Option.some.injEq, Prod.mk.injEq] at h
       have := quo_le l false q.1 q.2 e
       rw [← h.2]
       simp; omega
   split at h
   · split at h
     · simp only [Option.some.injEq, Prod.mk.injEq] at h
       rw [← h.2]; simp
     · cases e : numT (c :: l.takeWhile dig) with
       | none => rw [e] at h; cases h
       | some q =>
         rw [e] at h
         simp only [Option.map_some, Option.some.injEq, Prod.mk.injEq] at h
         have := drop_le dig l
         rw [← h.2]; simp; omega
   split at h
   · simp only [Option.some.injEq, Prod.mk.injEq] at h
     rw [← h.2]; simp
   · cases h
theorem lexF_fuel : ∀ (n : Nat) (l : List UInt8), l.length ≤ n → lexF n l = lexF l.length l := by
 intro n
 induction n using Nat.strongRecOn with
 | _ n ih =>
   intro l hl
   cases l with
   | nil => cases n <;> rfl
   | cons c r =>
     cases n with
     | zero => simp at hl
     | succ n =>
       rw [List.length_cons] at hl ⊢
       rw [lexF, lexF]
       split
       · exact ih n (by omega) r (by omega)
       · cases e : tokL (c :: r) with
         | none => rfl
         | some p =>
           obtain ⟨t, q⟩ := p
           have hq := tok_lt e
           rw [List.length_cons] at hq
           simp only
           split
           · rw [ih n (by omega) q (by omega), ih r.length (by omega) q (by omega)]
           · rfl
theorem lex_nil : lexL [] = some [] := rfl
theorem lex_blank {c : UInt8} {r : List UInt8} (h : cls c = 1) : lexL (c :: r) = lexL r := by
 unfold lexL
 rw [List.length_cons, lexF, if_pos h]
theorem lex_tok {c : UInt8} {r : List UInt8} (h : cls c ≠ 1) : lexL (c :: r) = match tokL (c :: r) with
 | none => none
 | some (t, q) => if mayT t then (lexL q).map (t :: ·) else none := by
 unfold lexL
 rw [List.length_cons, lexF, if_neg h]
 cases e : tokL (c :: r) with
 | none => rfl
 | some p =>
   obtain ⟨t, q⟩ := p
   have hq := tok_lt e
   rw [List.length_cons] at hq
   simp only
   rw [lexF_fuel r.length q (by omega)]
theorem lex_drop : ∀ l : List UInt8, lexL (l.dropWhile blk) = lexL l
 | [] => rfl
 | c :: r => by
   rw [List.dropWhile_cons]
   cases h : blk c
   · rfl
   · rw [lex_blank (cls_1.2 (blk_iff.1 h))]
     exact lex_drop r
theorem drop_head (l : List UInt8) : l.dropWhile blk = [] ∨ ∃ c r, l.dropWhile blk = c :: r ∧ cls c ≠ 1 := by
 cases e : l.dropWhile blk with
 | nil => exact .inl rfl
 | cons c r =>
   refine .inr ⟨c, r, rfl, fun h => ?_⟩
   have := List.head_dropWhile_not blk (by rw [e]; simp : l.dropWhile blk ≠ [])
   simp only [e, List.head_cons] at this
   rw [blk_iff.2 (cls_1.1 h)] at this
   cases this
theorem take_app (p : UInt8 → Bool) (hp : p 32 = false) (x : List UInt8) : ∀ l : List UInt8, (l ++ 32 :: x).takeWhile p = l.takeWhile p ∧ (l ++ 32 :: x).dropWhile p = l.dropWhile p ++ 32 :: x
 | [] => by simp [hp]
 | c :: l => by
   obtain ⟨h1, h2⟩ := take_app p hp x l
   rw [List.cons_append, List.takeWhile_cons, List.takeWhile_cons, List.dropWhile_cons, List.dropWhile_cons]
   cases p c
   · exact ⟨rfl, rfl⟩
   · simp only [if_true]
     exact ⟨by rw [h1], h2⟩
theorem quo_app (x : List UInt8) : ∀ (l : List UInt8) (b : Bool) (u r : List UInt8), quoF b l = some (u, r) → quoF b (l ++ 32 :: x) = some (u, r ++ 32 :: x)
 | [], false, u, r, h => by simp [quoF] at h
 | [], true, u, r, h => by simp [quoF] at h; rw [h.1, h.2]; rfl
 | c :: l, false, u, r, h => by
   rw [quoF] at h
   rw [List.cons_append, quoF]
   split at h
   · rename_i hc
     rw [if_pos hc]; exact quo_app x l true u r h
   · rename_i hc
     rw [if_neg hc]
     cases e : quoF false l with
     | none => rw [e] at h; cases h
     | some p =>
       rw [e] at h
       simp at h
       rw [quo_app x l false p.1 p.2 e]
       simp [h.1, h.2]
 | c :: l, true, u, r, h => by
   rw [quoF] at h
   rw [List.cons_append, quoF]
   split at h
   · rename_i hc
     rw [if_pos hc]
     cases e : quoF false l with
     | none => rw [e] at h; cases h
     | some p =>
       rw [e] at h
       simp at h
       rw [quo_app x l false p.1 p.2 e]
       simp [h.1, h.2]
   · rename_i hc
     rw [if_neg hc]
     simp at h
     rw [h.1.symm, ← h.2]; simp
theorem tok_app (x : List UInt8) {l : List UInt8} {t : Tk} {r : List UInt8} (h : tokL l = some (t, r)) : tokL (l ++ 32 :: x) = some (t, r ++ 32 :: x) := by
 have hi : inn 32 = false := by decide
 have hd : dig 32 = false := by decide
 cases l with
 | nil => cases h
 | cons c l =>
   obtain ⟨i1, i2⟩ := take_app inn hi x (c :: l)
   obtain ⟨d1, d2⟩ := take_app dig hd x (c :: l)
   obtain ⟨e1, e2⟩ := take_app dig hd x l
   rw [List.cons_append] at i1 i2 d1 d2 ⊢
   rw [tokL] at h ⊢
   rw [i1, i2, d1, d2, e1, e2]
   split at h
   · rename_i hc
     rw [if_pos hc]
     simp only [Option.some.injEq, Prod.mk.injEq] at h ⊢
     exact ⟨h.1, by rw [h.2]⟩
   rename_i hc
   rw [if_neg hc]
   split at h
   · rename_i hc
     rw [if_pos hc]
     cases e : numT ((c :: l).takeWhile dig) with
     | none => rw [e] at h; cases h
     | some q =>
       rw [e] at h
       simp only [Option.map_some, Option.some.injEq, Prod.mk.injEq] at h ⊢
       exact ⟨h.1, by rw [h.2]⟩
   rename_i hc
   rw [if_neg hc]
   split at h
   · rename_i hc
     rw [if_pos hc]
     cases e : quoF false l with
     | none => rw [e] at h; cases h
     | some q =>
       rw [e] at h
       simp only [Option.map_some, Option.some.injEq, Prod.mk.injEq] at h
       rw [quo_app x l false q.1 q.2 e]
       simp only [Option.map_some, Option.some.injEq, Prod.mk.injEq]
       exact ⟨h.1, by rw [h.2]⟩
   rename_i hc
   rw [if_neg hc]
   split at h
   · rename_i hc
     rw [if_pos hc]
     split at h
     · rename_i he
       rw [if_pos he]
       simp only [Option.some.injEq, Prod.mk.injEq] at h ⊢
       exact ⟨h.1, by rw [h.2]⟩
     · rename_i he
       rw [if_neg he]
       cases e : numT (c :: l.takeWhile dig) with
       | none => rw [e] at h; cases h
       | some q =>
         rw [e] at h
         simp only [Option.map_some, Option.some.injEq, Prod.mk.injEq] at h ⊢
         exact ⟨h.1, by rw [h.2]⟩
   rename_i hc
   rw [if_neg hc]
   split at h
   · rename_i hc
     rw [if_pos hc]
     simp only [Option.some.injEq, Prod.mk.injEq] at h ⊢
     exact ⟨h.1, by rw [h.2]⟩
   · cases h
theorem lex_app (x : List UInt8) : ∀ (n : Nat) (s : List UInt8) (a : List Tk), s.length ≤ n → lexL s = some a → lexL (s ++ 32 :: x) = (lexL x).map (a ++ ·)
 | n, [], a, _, h => by
   rw [lex_nil] at h
   simp only [Option.some.injEq] at h
   rw [← h, List.nil_append, lex_blank (by decide)]
   cases lexL x <;> rfl
 | 0, c :: s, a, hn, _ => by simp at hn
 | n + 1, c :: s, a, hn, h => by
   rw [List.length_cons] at hn
   by_cases hc : cls c = 1
   · rw [lex_blank hc] at h
     rw [List.cons_append, lex_blank hc]
     exact lex_app x n s a (by omega) h
   · rw [lex_tok hc] at h
     rw [List.cons_append, lex_tok hc]
     cases e : tokL (c :: s) with
     | none => rw [e] at h; cases h
     | some p =>
       obtain ⟨t, q⟩ := p
       have hq := tok_lt e
       rw [List.length_cons] at hq
       have e2 := tok_app x e
       rw [List.cons_append] at e2
       rw [e] at h
       rw [e2]
       simp only at h ⊢
       split at h
       · rename_i hm
         rw [if_pos hm]
         cases e3 : lexL q with
         | none => rw [e3] at h; cases h
         | some b =>
           rw [e3] at h
           simp only [Option.map_some, Option.some.injEq] at h
           rw [lex_app x n q b (by omega) e3, ← h]
           cases lexL x <;> simp
       · cases h
theorem fold_ge : ∀ (l : List UInt8) (a : Nat), a ≤ l.foldl (fun a c => a * 10 + (c.toNat - 48)) a
 | [], a => Nat.le_refl _
 | c :: l, a => by
   rw [List.foldl_cons]
   have := fold_ge l (a * 10 + (c.toNat - 48))
   omega
theorem parse_fold : ∀ (l : List UInt8) (a : Nat), (∀ c ∈ l, 48 ≤ c.toNat ∧ c.toNat ≤ 57) → l.foldl (fun a c => a * 10 + (c.toNat - 48)) a < 18446744073709551616 → Lib.parseUint10 a l = .ok (l.foldl (fun a c => a * 10 + (c.toNat - 48)) a)
 | [], a, _, _ => rfl
 | c :: l, a, h, hlt => by
   rw [List.foldl_cons] at hlt
   have := fold_ge l (a * 10 + (c.toNat - 48))
   rw [Lib.parseUint10, if_pos (h c (by simp)), if_neg (by omega), if_neg (by omega), parse_fold l _ (fun d hd => h d (List.mem_cons_of_mem _ hd)) hlt, List.foldl_cons]
theorem parse_dec (u : Nat) (h : u < 18446744073709551616) : Lib.parseMag (Lib.decDigits u) = .ok u := by
 obtain ⟨c, l, hl, _⟩ := dec_head u
 unfold Lib.parseMag
 rw [if_neg (by rw [hl]; simp)]
 have hn := num_dec u
 unfold num at hn
 rw [parse_fold (Lib.decDigits u) 0 (dec_all u) (by rw [hn]; exact h), hn]
theorem atoi_itoa (v : Int) (h : -9223372036854775808 ≤ v ∧ v ≤ 9223372036854775807) : Lib.atoiAll (Lib.itoa v) = .ok v := by
 unfold Lib.itoa
 by_cases hv : v < 0
 · rw [if_pos hv]
   have hp := parse_dec v.natAbs (by omega)
   unfold Lib.atoiAll
   simp only
   rw [if_pos (.inr (by decide)), hp]
   simp only
   rw [if_neg (by rintro ⟨h1, _⟩; exact h1 (by decide)), if_neg (by rintro ⟨_, h2⟩; omega), if_pos (by decide)]
   congr 1
   omega
 · rw [if_neg hv]
   have hp := parse_dec v.toNat (by omega)
   obtain ⟨c, l, hl, h1, h2⟩ := dec_head v.toNat
   rw [hl] at hp ⊢
   unfold Lib.atoiAll
   simp only
   rw [if_neg (by omega), hp]
   simp only
   rw [if_neg (by rintro ⟨_, h2⟩; omega), if_neg (by rintro ⟨h1, _⟩; omega), if_neg (by omega)]
   congr 1
   omega
theorem num_itoa (v : Int) (h : -9223372036854775808 ≤ v ∧ v ≤ 9223372036854775807) : numT (Lib.itoa v) = some (intT v) := by
 unfold numT
 rw [atoi_itoa v h]
 simp
theorem quo_sub : ∀ s : List UInt8, quoF false (sub1 39 [39, 39] s ++ [39]) = some (s, [])
 | [] => rfl
 | c :: s => by
   rw [sub1]
   split
   · rename_i hc
     subst hc
     show quoF false (39 :: 39 :: (sub1 39 [39, 39] s ++ [39])) = _
     rw [quoF, if_pos rfl, quoF, if_pos rfl, quo_sub s]
     rfl
   · rename_i hc
     rw [List.cons_append, quoF, if_neg hc, quo_sub s]
     rfl
def T64 (t : Tk) : Prop := -9223372036854775808 ≤ t.v.n ∧ t.v.n ≤ 9223372036854775807
theorem all_take (p : UInt8 → Bool) : ∀ l : List UInt8, (∀ c ∈ l, p c = true) → l.takeWhile p = l ∧ l.dropWhile p = []
 | [], _ => ⟨rfl, rfl⟩
 | c :: l, h => by
   obtain ⟨h1, h2⟩ := all_take p l (fun d hd => h d (List.mem_cons_of_mem _ hd))
   rw [List.takeWhile_cons, List.dropWhile_cons, h c (by simp)]
   exact ⟨by simp only [if_true]; rw [h1], h2⟩
theorem sgn_cls : ∀ c ∈ sgns, cls c = 6 ∨ cls c = 7 := by decide
theorem tok_txt (t : Tk) (hm : mayT t = true) (h6 : T64 t) : tokL (txtT t) = some (t, []) := by
 obtain ⟨k, s, v⟩ := t
 unfold T64 at h6
 unfold mayT at hm
 unfold txtT
 simp only at *
 by_cases h0 : k = 0
 · subst h0
   simp only [beq_self_eq_true, if_true, Bool.and_eq_true, Val.eq_iff] at hm
   obtain ⟨hw, rfl⟩ := hm
   rw [if_neg (by decide)]
   unfold wordB at hw
   split at hw
   · cases hw
   · rename_i c r e
     simp only [Bool.and_eq_true, decide_eq_true_eq, List.all_eq_true] at hw
     obtain ⟨h1, h2⟩ := all_take inn (c :: r) hw.2.2
     rw [e, tokL, if_pos hw.2.1, h1, h2, ← e]
     unfold wrdT
     rw [ba_of]
 have k0 : (k == 0) = false := by simpa using h0
 rw [k0] at hm
 simp only [Bool.false_eq_true, if_false] at hm
 by_cases h1 : k = 1
 · subst h1
   simp only [beq_self_eq_true, if_true, Bool.and_eq_true, Bool.or_eq_true, beq_iff_eq] at hm ⊢
   obtain ⟨he, hk, hv⟩ := hm
   have hs := emp_of he
   subst hs
   obtain ⟨vk, vn, vs⟩ := v
   have hval := valid_of_may _ hv
   simp only at *
   rcases hk with rfl | rfl
   · rcases hval with ⟨hk, _⟩ | ⟨hk, _⟩ | ⟨_, hs⟩ | ⟨hk, _⟩
     · simp at hk
     · simp at hk
     · simp only at hs
       subst hs
       have ht : textL ⟨2, vn, emp⟩ = Lib.itoa vn := rfl
       have hnum := num_itoa vn h6
       rw [ht]
       unfold Lib.itoa at hnum ⊢
       by_cases hneg : vn < 0
       · rw [if_pos hneg] at hnum ⊢
         obtain ⟨a1, a2⟩ := all_take dig (Lib.decDigits vn.natAbs) (fun c hc => dig_iff.2 (dec_all _ c hc))
         obtain ⟨c, l, hl, _⟩ := dec_head vn.natAbs
         rw [tokL, if_neg (by decide), if_neg (by decide), if_neg (by decide), if_pos (by decide), a1, a2, if_neg (by rw [hl]; simp), hnum]
         rfl
       · rw [if_neg hneg] at hnum ⊢
         obtain ⟨a1, a2⟩ := all_take dig (Lib.decDigits vn.toNat) (fun c hc => dig_iff.2 (dec_all _ c hc))
         obtain ⟨c, l, hl, hc1, hc2⟩ := dec_head vn.toNat
         rw [hl] at a1 a2 hnum ⊢
         rw [tokL, if_neg (by rw [cls_2]; omega), if_pos (cls_3.2 ⟨hc1, hc2⟩), a1, a2, hnum]
         rfl
     · simp at hk
   · rcases hval with ⟨hk, _⟩ | ⟨hk, _⟩ | ⟨hk, _⟩ | ⟨_, hn, hs⟩
     · simp at hk
     · simp at hk
     · simp at hk
     · simp only at hn
       subst hn
       have ht : textL ⟨3, 0, vs⟩ = 39 :: (sub1 39 [39, 39] vs.data.toList ++ [39]) := rfl
       rw [ht, tokL, if_neg (by decide), if_neg (by decide), if_pos (by decide), quo_sub]
       simp only [Option.map_some]
       unfold strT
       rw [ba_of]
 have k1 : (k == 1) = false := by simpa using h1
 rw [k1] at hm ⊢
 simp only [Bool.false_eq_true, if_false] at hm ⊢
 by_cases h2 : k = 2
 · subst h2
   simp only [beq_self_eq_true, if_true, Bool.and_eq_true, Val.eq_iff] at hm
   obtain ⟨hw, rfl⟩ := hm
   unfold signB at hw
   split at hw
   · rename_i c e
     simp only [decide_eq_true_eq] at hw
     have hc := sgn_cls c hw
     rw [e, tokL]
     have e2 : sgnT [c] = ⟨2, s, nl⟩ := by unfold sgnT; rw [← e, ba_of]
     rcases hc with hc | hc
     · rw [if_neg (by omega), if_neg (by omega), if_neg (by omega), if_pos hc, List.takeWhile_nil, if_pos rfl, e2]
     · rw [if_neg (by omega), if_neg (by omega), if_neg (by omega), if_neg (by omega), if_pos hc, e2]
   · cases hw
 · have k2 : (k == 2) = false := by simpa using h2
   rw [k2] at hm
   cases hm
theorem lex_txt (t : Tk) (hm : mayT t = true) (h6 : T64 t) : lexL (txtT t) = some [t] := by
 have h := tok_txt t hm h6
 cases e : txtT t with
 | nil => rw [e] at h; cases h
 | cons c r =>
   rw [e] at h
   have hc : cls c ≠ 1 := by
    intro hc
    rw [tokL, if_neg (by omega), if_neg (by omega), if_neg (by omega), if_neg (by omega), if_neg (by omega)] at h
    cases h
   rw [lex_tok hc, h]
   simp only
   rw [if_pos hm, lex_nil]
   rfl
theorem print_cons (t : Tk) (l : List Tk) (h : l ≠ []) : printL (t :: l) = txtT t ++ 32 :: printL l := by
 cases l with
 | nil => exact absurd rfl h
 | cons u l =>
   unfold printL
   rw [List.map_cons, List.map_cons, Lib.join_cons, Lib.join_cons]
   simp [Lib.joinTail]
theorem print_one (t : Tk) : printL [t] = txtT t := by
 unfold printL
 rw [List.map_cons, Lib.join_cons]
 simp [Lib.joinTail]
theorem lex_print : ∀ l : List Tk, (∀ t ∈ l, mayT t = true) → (∀ t ∈ l, T64 t) → lexL (printL l) = some l
 | [], _, _ => rfl
 | [t], hm, h6 => by rw [print_one]; exact lex_txt t (hm t (by simp)) (h6 t (by simp))
 | t :: u :: l, hm, h6 => by
   rw [print_cons t (u :: l) (by simp), lex_app _ _ _ [t] (Nat.le_refl _) (lex_txt t (hm t (by simp)) (h6 t (by simp))), lex_print (u :: l) (fun x hx => hm x (List.mem_cons_of_mem _ hx)) (fun x hx => h6 x (List.mem_cons_of_mem _ hx))]
   rfl
theorem txt_ne (t : Tk) (hm : mayT t = true) (h6 : T64 t) : txtT t ≠ [] := by
 intro e
 have h := tok_txt t hm h6
 rw [e] at h
 cases h
theorem atoi_64 {w : List UInt8} {v : Int} (e : Lib.atoiAll w = .ok v) : -9223372036854775808 ≤ v ∧ v ≤ 9223372036854775807 := by
 unfold Lib.atoiAll at e
 split at e
 · cases e
 · simp only at e
   split at e
   · cases e
   · cases e
   · split at e
     · cases e
     · split at e
       · cases e
       · rename_i u _ h1 h2
         injection e with e
         subst e
         split <;> omega
theorem num_64 {w : List UInt8} {t : Tk} (h : numT w = some t) : T64 t := by
 unfold numT at h
 split at h
 · rename_i v e
   split at h
   · simp only [Option.some.injEq] at h
     subst h
     exact atoi_64 e
   · cases h
 · cases h
theorem tok_64 {l : List UInt8} {t : Tk} {r : List UInt8} (h : tokL l = some (t, r)) : T64 t := by
 cases l with
 | nil => cases h
 | cons c l =>
   rw [tokL] at h
   split at h
   · simp only [Option.some.injEq, Prod.mk.injEq] at h
     rw [← h.1]; exact ⟨(by decide : (-9223372036854775808 : Int) ≤ 0), (by decide : (0 : Int) ≤ 9223372036854775807)⟩
   split at h
   · cases e : numT ((c :: l).takeWhile dig) with
     | none => rw [e] at h; cases h
     | some q =>
       rw [e] at h
       simp only [Option.map_some, Option.some.injEq, Prod.mk.injEq] at h
       rw [← h.1]; exact num_64 e
   split at h
   · cases e : quoF false l with
     | none => rw [e] at h; cases h
     | some q =>
       rw [e] at h
       simp only [Option.map_some, Option.some.injEq, Prod.mk.injEq] at h
       rw [← h.1]; exact ⟨(by decide : (-9223372036854775808 : Int) ≤ 0), (by decide : (0 : Int) ≤ 9223372036854775807)⟩
   split at h
   · split at h
     · simp only [Option.some.injEq, Prod.mk.injEq] at h
       rw [← h.1]; exact ⟨(by decide : (-9223372036854775808 : Int) ≤ 0), (by decide : (0 : Int) ≤ 9223372036854775807)⟩
     · cases e : numT (c :: l.takeWhile dig) with
       | none => rw [e] at h; cases h
       | some q =>
         rw [e] at h
         simp only [Option.map_some, Option.some.injEq, Prod.mk.injEq] at h
         rw [← h.1]; exact num_64 e
   split at h
   · simp only [Option.some.injEq, Prod.mk.injEq] at h
     rw [← h.1]; exact ⟨(by decide : (-9223372036854775808 : Int) ≤ 0), (by decide : (0 : Int) ≤ 9223372036854775807)⟩
   · cases h
theorem lex_may : ∀ (n : Nat) (s : List UInt8) (a : List Tk), s.length ≤ n → lexL s = some a → ∀ t ∈ a, mayT t = true ∧ T64 t
 | n, [], a, _, h, t, ht => by
   rw [lex_nil] at h
   simp only [Option.some.injEq] at h
   rw [← h] at ht; cases ht
 | 0, c :: s, a, hn, _, t, ht => by simp at hn
 | n + 1, c :: s, a, hn, h, t, ht => by
   rw [List.length_cons] at hn
   by_cases hc : cls c = 1
   · rw [lex_blank hc] at h
     exact lex_may n s a (by omega) h t ht
   · rw [lex_tok hc] at h
     cases e : tokL (c :: s) with
     | none => rw [e] at h; cases h
     | some p =>
       obtain ⟨u, q⟩ := p
       have hq := tok_lt e
       rw [List.length_cons] at hq
       rw [e] at h
       simp only at h
       split at h
       · rename_i hm
         cases e3 : lexL q with
         | none => rw [e3] at h; cases h
         | some b =>
           rw [e3] at h
           simp only [Option.map_some, Option.some.injEq] at h
           rw [← h] at ht
           rcases List.mem_cons.1 ht with rfl | ht
           · exact ⟨hm, tok_64 e⟩
           · exact lex_may n q b (by omega) e3 t ht
       · cases h
end Go.Proofs.YtamekagminbejaaGreatDoor
namespace Go.Proofs.YtamekagminbejaaGreatDoor
open Go
structure Nd where
 op : Int
 n : Int
 v : Val
def Nd.eq (a b : Nd) : Bool := decide (a.op = b.op) && (decide (a.n = b.n) && a.v.eq b.v)
theorem Nd.eq_iff {a b : Nd} : a.eq b = true ↔ a = b := by
 obtain ⟨o, n, v⟩ := a
 obtain ⟨o', n', v'⟩ := b
 simp only [Nd.eq, Bool.and_eq_true, decide_eq_true_eq, Nd.mk.injEq, Val.eq_iff]
end Go.Proofs.YtamekagminbejaaGreatDoor
namespace Go.Proofs.YtamekagminbejaaGreatDoor
open Go
set_option maxRecDepth 100000
def w_table : List UInt8 := [116, 97, 98, 108, 101]
def w_check : List UInt8 := [99, 104, 101, 99, 107]
def w_view : List UInt8 := [118, 105, 101, 119]
def w_from : List UInt8 := [102, 114, 111, 109]
def w_join : List UInt8 := [106, 111, 105, 110]
def w_on : List UInt8 := [111, 110]
def w_where : List UInt8 := [119, 104, 101, 114, 101]
def w_pick : List UInt8 := [112, 105, 99, 107]
def w_group : List UInt8 := [103, 114, 111, 117, 112]
def w_bool : List UInt8 := [98, 111, 111, 108]
def w_int : List UInt8 := [105, 110, 116]
def w_text : List UInt8 := [116, 101, 120, 116]
def w_null : List UInt8 := [110, 117, 108, 108]
def w_unique : List UInt8 := [117, 110, 105, 113, 117, 101]
def w_ref : List UInt8 := [114, 101, 102]
def w_restrict : List UInt8 := [114, 101, 115, 116, 114, 105, 99, 116]
def w_cascade : List UInt8 := [99, 97, 115, 99, 97, 100, 101]
def w_setnull : List UInt8 := [115, 101, 116, 110, 117, 108, 108]
def w_count : List UInt8 := [99, 111, 117, 110, 116]
def w_sum : List UInt8 := [115, 117, 109]
def w_min : List UInt8 := [109, 105, 110]
def w_max : List UInt8 := [109, 97, 120]
def w_true : List UInt8 := [116, 114, 117, 101]
def w_false : List UInt8 := [102, 97, 108, 115, 101]
def w_and : List UInt8 := [97, 110, 100]
def w_or : List UInt8 := [111, 114]
def w_not : List UInt8 := [110, 111, 116]
def s_lp : List UInt8 := [40]
def s_rp : List UInt8 := [41]
def s_lb : List UInt8 := [91]
def s_rb : List UInt8 := [93]
def s_cm : List UInt8 := [44]
def s_eq : List UInt8 := [61]
def s_lt : List UInt8 := [60]
def s_pl : List UInt8 := [43]
def s_mi : List UInt8 := [45]
def s_st : List UInt8 := [42]
def s_qm : List UInt8 := [63]
def kws : List (List UInt8) := [w_table, w_check, w_view, w_from, w_join, w_on, w_where, w_pick, w_group, w_bool, w_int, w_text, w_null, w_unique, w_ref, w_restrict, w_cascade, w_setnull, w_count, w_sum, w_min, w_max, w_true, w_false, w_and, w_or, w_not]
def isW (s : List UInt8) (t : Tk) : Bool := (t.k != 1) && (t.t.data.toList == s)
def nameB (l : List UInt8) : Bool := wordB l && !kws.contains l
structure Cl where
 name : ByteArray
 kind : Int
 nul : Bool
 uni : Bool
 ref : ByteArray
 act : Int
structure Tb where
 name : ByteArray
 cols : List Cl
 checks : List (List Nd)
structure Ag where
 fn : Int
 col : Int
structure Vw where
 name : ByteArray
 frm : ByteArray
 wth : ByteArray
 on0 : Int
 on1 : Int
 whr : List Nd
 pick : List Int
 grp : Bool
 aggs : List Ag
structure Df where
 k : Int
 t : Tb
 v : Vw
def tb0 : Tb := ⟨emp, [], []⟩
def vw0 : Vw := ⟨emp, emp, emp, 0, 0, [], [], false, []⟩
def nameP : List Tk → Option (ByteArray × List Tk)
 | [] => none
 | t :: r => if t.k == 0 && nameB t.t.data.toList then some (t.t, r) else none
def colP : List Tk → Option (Int × List Tk)
 | [] => none
 | t :: r => if t.k == 1 && (t.v.k == 2 && (decide (0 ≤ t.v.n) && decide (t.v.n ≤ 99))) then some (t.v.n, r) else none
def needP (s : List UInt8) : List Tk → Option (List Tk)
 | [] => none
 | t :: r => if isW s t then some r else none
def takeP (s : List UInt8) : List Tk → Bool × List Tk
 | [] => (false, [])
 | t :: r => if isW s t then (true, r) else (false, t :: r)
def oneF : List (List UInt8) → Int → Tk → Option Int
 | [], _, _ => none
 | s :: ws, i, t => if isW s t then some i else oneF ws (i + 1) t
def oneP (ws : List (List UInt8)) : List Tk → Option (Int × List Tk)
 | [] => none
 | t :: r => (oneF ws 0 t).map fun i => (i, r)
def opWs : List (List UInt8) := [s_pl, s_mi, s_st, s_eq, s_lt, w_and, w_or, w_not]
def cWord (n : Nat) : List UInt8 := 99 :: Lib.itoa (n : Int)
def cnum (l : List UInt8) : Option Nat := (List.range 100).find? fun n => l == cWord n
def stepP : List Tk → Option (Nd × List Tk)
 | [] => none
 | t :: r =>
   if isW w_null t then (if (takeP s_qm r).1 then some (⟨10, 0, nl⟩, (takeP s_qm r).2) else some (⟨1, 0, nl⟩, r))
   else if isW w_true t then some (⟨1, 0, tt⟩, r)
   else if isW w_false t then some (⟨1, 0, ff⟩, r)
   else match oneF opWs 2 t with
    | some i => some (⟨i, 0, nl⟩, r)
    | none => if t.k == 1 then some (⟨1, 0, t.v⟩, r) else if t.k == 0 then (cnum t.t.data.toList).map fun (n : Nat) => ((⟨0, (n : Int), nl⟩ : Nd), r) else none
def exprF : Nat → List Tk → Option (List Nd × List Tk)
 | 0, _ => none
 | _ + 1, [] => none
 | n + 1, t :: r => if isW s_rb t then some ([], r) else (stepP (t :: r)).bind fun p => (exprF n p.2).map fun q => (p.1 :: q.1, q.2)
def exprP (l : List Tk) : Option (List Nd × List Tk) := (needP s_lb l).bind fun r => (exprF (r.length + 1) r).bind fun p => if p.1.length ≤ 100 then some p else none
def columnP (l : List Tk) : Option (Cl × List Tk) :=
 (nameP l).bind fun a => (oneP [w_bool, w_int, w_text] a.2).bind fun k =>
   if (takeP w_ref (takeP w_unique (takeP w_null k.2).2).2).1 then
    (nameP (takeP w_ref (takeP w_unique (takeP w_null k.2).2).2).2).bind fun b => (oneP [w_restrict, w_cascade, w_setnull] b.2).map fun c =>
      (⟨a.1, k.1 + 1, (takeP w_null k.2).1, (takeP w_unique (takeP w_null k.2).2).1, b.1, c.1⟩, c.2)
   else some (⟨a.1, k.1 + 1, (takeP w_null k.2).1, (takeP w_unique (takeP w_null k.2).2).1, emp, 0⟩, (takeP w_unique (takeP w_null k.2).2).2)
def sepF {α : Type} (p : List Tk → Option (α × List Tk)) : Nat → List Tk → Option (List α × List Tk)
 | 0, _ => none
 | n + 1, l => (p l).bind fun a => if (takeP s_cm a.2).1 then (sepF p n (takeP s_cm a.2).2).map fun q => (a.1 :: q.1, q.2) else some ([a.1], a.2)
def sepP {α : Type} (p : List Tk → Option (α × List Tk)) (l : List Tk) : Option (List α × List Tk) := sepF p (l.length + 1) l
def checksF : Nat → List Tk → Option (List (List Nd) × List Tk)
 | 0, _ => none
 | n + 1, l => if (takeP w_check l).1 then (exprP (takeP w_check l).2).bind fun e => (checksF n e.2).map fun q => (e.1 :: q.1, q.2) else some ([], l)
def tableP (l : List Tk) : Option (Tb × List Tk) :=
 (nameP l).bind fun a => (needP s_lp a.2).bind fun r => (sepP columnP r).bind fun c => (needP s_rp c.2).bind fun q => (checksF (q.length + 1) q).bind fun k =>
   if c.1.length ≤ 40 ∧ k.1.length ≤ 40 then some (⟨a.1, c.1, k.1⟩, k.2) else none
def aggP (l : List Tk) : Option (Ag × List Tk) :=
 (oneP [w_count, w_sum, w_min, w_max] l).bind fun f => if f.1 = 0 then some (⟨0, 0⟩, f.2) else (colP f.2).map fun c => (⟨f.1, c.1⟩, c.2)
def joinP (l : List Tk) : Option ((ByteArray × Int × Int) × List Tk) :=
 if (takeP w_join l).1 then (nameP (takeP w_join l).2).bind fun a => (needP w_on a.2).bind fun r => (colP r).bind fun x => (needP s_eq x.2).bind fun q => (colP q).map fun y => ((a.1, x.1, y.1), y.2)
 else some ((emp, 0, 0), l)
def whereP (l : List Tk) : Option (List Nd × List Tk) := if (takeP w_where l).1 then exprP (takeP w_where l).2 else some ([], l)
def picksP (l : List Tk) : Option (List Int × List Tk) := if l.isEmpty || (takeP w_group l).1 then some ([], l) else sepP colP l
def aggsP (l : List Tk) : Option ((Bool × List Ag) × List Tk) :=
 if (takeP w_group l).1 then (if (takeP w_group l).2.isEmpty then some ((true, []), []) else (sepP aggP (takeP w_group l).2).map fun a => ((true, a.1), a.2))
 else some ((false, []), l)
def viewP (l : List Tk) : Option (Vw × List Tk) :=
 (nameP l).bind fun a => (needP w_from a.2).bind fun r => (nameP r).bind fun b => (joinP b.2).bind fun j => (whereP j.2).bind fun e => (needP w_pick e.2).bind fun q => (picksP q).bind fun k => (aggsP k.2).bind fun g =>
   if k.1.length ≤ 40 ∧ g.1.2.length ≤ 40 then some (⟨a.1, b.1, j.1.1, j.1.2.1, j.1.2.2, e.1, k.1, g.1.1, g.1.2⟩, g.2) else none
def parseD (l : List Tk) : Option Df :=
 (oneP [w_table, w_view] l).bind fun k =>
   if k.1 = 0 then (tableP k.2).bind fun t => if t.2.isEmpty then some ⟨0, t.1, vw0⟩ else none
   else (viewP k.2).bind fun v => if v.2.isEmpty then some ⟨1, tb0, v.1⟩ else none
def tW (l : List UInt8) : Tk := ⟨0, ba l, nl⟩
def tN (b : ByteArray) : Tk := ⟨0, b, nl⟩
def tS (l : List UInt8) : Tk := ⟨2, ba l, nl⟩
def ndT (x : Nd) : List Tk :=
 if x.op = 10 then [tW w_null, tS s_qm]
 else if x.op = 1 then (if x.v.eq nl then [tW w_null] else if x.v.eq tt then [tW w_true] else if x.v.eq ff then [tW w_false] else [⟨1, emp, x.v⟩])
 else if x.op = 0 then [tW (cWord x.n.toNat)]
 else if x.op = 2 then [tS s_pl] else if x.op = 3 then [tS s_mi] else if x.op = 4 then [tS s_st] else if x.op = 5 then [tS s_eq] else if x.op = 6 then [tS s_lt] else if x.op = 7 then [tW w_and] else if x.op = 8 then [tW w_or] else [tW w_not]
def exprT (e : List Nd) : List Tk := tS s_lb :: (e.flatMap ndT ++ [tS s_rb])
def sepT {α : Type} (f : α → List Tk) : List α → List Tk
 | [] => []
 | a :: r => f a ++ (if r.isEmpty then [] else tS s_cm :: sepT f r)
def kindW (k : Int) : List UInt8 := if k = 1 then w_bool else if k = 2 then w_int else w_text
def actW (a : Int) : List UInt8 := if a = 0 then w_restrict else if a = 1 then w_cascade else w_setnull
def fnW (f : Int) : List UInt8 := if f = 0 then w_count else if f = 1 then w_sum else if f = 2 then w_min else w_max
def clT (c : Cl) : List Tk := tN c.name :: tW (kindW c.kind) :: ((if c.nul then [tW w_null] else []) ++ ((if c.uni then [tW w_unique] else []) ++ (if c.ref.toList.isEmpty then [] else [tW w_ref, tN c.ref, tW (actW c.act)])))
def tbT (t : Tb) : List Tk := tN t.name :: tS s_lp :: (sepT clT t.cols ++ tS s_rp :: t.checks.flatMap fun e => tW w_check :: exprT e)
def agT (a : Ag) : List Tk := tW (fnW a.fn) :: (if a.fn = 0 then [] else [intT a.col])
def vwT (v : Vw) : List Tk := tN v.name :: tW w_from :: tN v.frm :: ((if v.wth.toList.isEmpty then [] else [tW w_join, tN v.wth, tW w_on, intT v.on0, tS s_eq, intT v.on1]) ++
 ((if v.whr.isEmpty then [] else tW w_where :: exprT v.whr) ++ tW w_pick :: (sepT (fun n => [intT n]) v.pick ++ (if v.grp then tW w_group :: sepT agT v.aggs else []))))
def toksD (d : Df) : List Tk := if d.k = 0 then tW w_table :: tbT d.t else tW w_view :: vwT d.v
def colB (n : Int) : Bool := decide (0 ≤ n) && decide (n ≤ 99)
def mayNd (x : Nd) : Bool :=
 if x.op = 0 then colB x.n && x.v.eq nl
 else if x.op = 1 then decide (x.n = 0) && mayB x.v
 else decide (2 ≤ x.op) && (decide (x.op ≤ 10) && (decide (x.n = 0) && x.v.eq nl))
def mayE (e : List Nd) : Bool := decide (e.length ≤ 100) && e.all mayNd
def mayCl (c : Cl) : Bool := nameB c.name.data.toList && (decide (1 ≤ c.kind) && (decide (c.kind ≤ 3) && (if c.ref.toList.isEmpty then decide (c.act = 0) else nameB c.ref.data.toList && (decide (0 ≤ c.act) && decide (c.act ≤ 2)))))
def mayTb (t : Tb) : Bool := nameB t.name.data.toList && (!t.cols.isEmpty && (decide (t.cols.length ≤ 40) && (decide (t.checks.length ≤ 40) && (t.cols.all mayCl && t.checks.all mayE))))
def mayAg (a : Ag) : Bool := if a.fn = 0 then decide (a.col = 0) else decide (0 ≤ a.fn) && (decide (a.fn ≤ 3) && colB a.col)
def mayVw (v : Vw) : Bool := nameB v.name.data.toList && (nameB v.frm.data.toList && ((if v.wth.toList.isEmpty then decide (v.on0 = 0) && decide (v.on1 = 0) else nameB v.wth.data.toList && (colB v.on0 && colB v.on1)) &&
 (mayE v.whr && (decide (v.pick.length ≤ 40) && (v.pick.all colB && (decide (v.aggs.length ≤ 40) && (v.aggs.all mayAg && (v.grp || v.aggs.isEmpty))))))))
def MayD (d : Df) : Prop := (d.k = 0 ∧ mayTb d.t = true ∧ d.v = vw0) ∨ (d.k = 1 ∧ d.t = tb0 ∧ mayVw d.v = true)
theorem take_hit {s : List UInt8} {t : Tk} {r : List Tk} (h : isW s t = true) : takeP s (t :: r) = (true, r) := by simp [takeP, h]
theorem take_miss {s : List UInt8} {t : Tk} {r : List Tk} (h : isW s t = false) : takeP s (t :: r) = (false, t :: r) := by simp [takeP, h]
theorem need_hit {s : List UInt8} {t : Tk} {r : List Tk} (h : isW s t = true) : needP s (t :: r) = some r := by simp [needP, h]
theorem name_print {b : ByteArray} (h : nameB b.data.toList = true) (r : List Tk) : nameP (tN b :: r) = some (b, r) := by simp [nameP, tN, h]
theorem col_print {n : Int} (h : colB n = true) (r : List Tk) : colP (intT n :: r) = some (n, r) := by
 unfold colB at h
 simp only [Bool.and_eq_true, decide_eq_true_eq] at h
 simp [colP, intT, iv, h.1, h.2]
theorem one_kind {k : Int} (h1 : 1 ≤ k) (h3 : k ≤ 3) (r : List Tk) : oneP [w_bool, w_int, w_text] (tW (kindW k) :: r) = some (k - 1, r) := by
 have : k = 1 ∨ k = 2 ∨ k = 3 := by omega
 rcases this with rfl | rfl | rfl <;> rfl
theorem one_act {k : Int} (h1 : 0 ≤ k) (h3 : k ≤ 2) (r : List Tk) : oneP [w_restrict, w_cascade, w_setnull] (tW (actW k) :: r) = some (k, r) := by
 have : k = 0 ∨ k = 1 ∨ k = 2 := by omega
 rcases this with rfl | rfl | rfl <;> rfl
theorem one_fn {k : Int} (h1 : 0 ≤ k) (h3 : k ≤ 3) (r : List Tk) : oneP [w_count, w_sum, w_min, w_max] (tW (fnW k) :: r) = some (k, r) := by
 have : k = 0 ∨ k = 1 ∨ k = 2 ∨ k = 3 := by omega
 rcases this with rfl | rfl | rfl | rfl <;> rfl
def endC (t : Tk) : Prop := t = tS s_cm ∨ t = tS s_rp
theorem endC_miss {t : Tk} (h : endC t) : isW w_null t = false ∧ isW w_unique t = false ∧ isW w_ref t = false := by
 rcases h with rfl | rfl <;> exact ⟨rfl, rfl, rfl⟩
theorem emp_eq {b : ByteArray} (h : b.toList.isEmpty = true) : b = emp := emp_of h
theorem column_print {c : Cl} (h : mayCl c = true) {t : Tk} (ht : endC t) (r : List Tk) : columnP (clT c ++ t :: r) = some (c, t :: r) := by
 obtain ⟨nm, k, nu, un, rf, ac⟩ := c
 unfold mayCl at h
 simp only [Bool.and_eq_true, decide_eq_true_eq] at h
 obtain ⟨h1, h2, h3, h4⟩ := h
 obtain ⟨m1, m2, m3⟩ := endC_miss ht
 have n1 : isW w_null (tW w_unique) = false := rfl
 have n2 : isW w_null (tW w_ref) = false := rfl
 have n3 : isW w_unique (tW w_ref) = false := rfl
 have y1 : isW w_null (tW w_null) = true := rfl
 have y2 : isW w_unique (tW w_unique) = true := rfl
 have y3 : isW w_ref (tW w_ref) = true := rfl
 have hk : k - 1 + 1 = k := by omega
 unfold columnP clT
 simp only [List.cons_append]
 rw [name_print h1]
 simp only [Option.bind_some]
 rw [one_kind h2 h3]
 simp only [Option.bind_some, hk]
 cases hr : rf.toList.isEmpty
 · rw [hr] at h4
   simp only [Bool.false_eq_true, if_false, Bool.and_eq_true, decide_eq_true_eq] at h4
   cases nu <;> cases un <;> simp [take_hit, take_miss, n1, n2, n3, y1, y2, y3, name_print h4.1, one_act h4.2.1 h4.2.2]
 · rw [hr] at h4
   simp only [if_true, decide_eq_true_eq] at h4
   have := emp_eq hr
   subst this
   subst h4
   cases nu <;> cases un <;> simp [take_hit, take_miss, n1, y1, y2, m1, m2, m3]
theorem sep_print {α : Type} {p : List Tk → Option (α × List Tk)} {f : α → List Tk} {V : α → Prop} {E : Tk → Prop} (hc : E (tS s_cm)) (hp : ∀ a, V a → ∀ t r, E t → p (f a ++ t :: r) = some (a, t :: r)) :
 ∀ (l : List α) (n : Nat) (t : Tk) (r : List Tk), l ≠ [] → (∀ a ∈ l, V a) → E t → isW s_cm t = false → l.length ≤ n → sepF p n (sepT f l ++ t :: r) = some (l, t :: r)
 | [], _, _, _, h, _, _, _, _ => absurd rfl h
 | a :: l, 0, t, r, _, _, _, _, hn => by simp at hn
 | [a], n + 1, t, r, _, hV, ht, hm, _ => by
   rw [sepF, sepT]
   simp only [List.isEmpty_nil, if_true, List.append_nil]
   rw [hp a (hV a (by simp)) t r ht]
   simp [take_miss hm]
 | a :: b :: l, n + 1, t, r, _, hV, ht, hm, hn => by
   have ih := sep_print (p := p) (f := f) (V := V) (E := E) hc hp (b :: l) n t r (by simp) (fun x hx => hV x (List.mem_cons_of_mem _ hx)) ht hm (by simp at hn ⊢; omega)
   rw [sepF, sepT]
   simp only [List.isEmpty_cons, Bool.false_eq_true, if_false, List.append_assoc, List.cons_append]
   rw [hp a (hV a (by simp)) _ _ hc]
   have hy : isW s_cm (tS s_cm) = true := rfl
   simp only [Option.bind_some, take_hit hy, if_true, ih, Option.map_some]
theorem sep_print_end {α : Type} {p : List Tk → Option (α × List Tk)} {f : α → List Tk} {V : α → Prop} {E : Tk → Prop} (hc : E (tS s_cm)) (hp : ∀ a, V a → ∀ t r, E t → p (f a ++ t :: r) = some (a, t :: r)) (hp0 : ∀ a, V a → p (f a) = some (a, [])) :
 ∀ (l : List α) (n : Nat), l ≠ [] → (∀ a ∈ l, V a) → l.length ≤ n → sepF p n (sepT f l) = some (l, [])
 | [], _, h, _, _ => absurd rfl h
 | a :: l, 0, _, _, hn => by simp at hn
 | [a], n + 1, _, hV, _ => by
   rw [sepF, sepT]
   simp only [List.isEmpty_nil, if_true, List.append_nil]
   rw [hp0 a (hV a (by simp))]
   simp [takeP]
 | a :: b :: l, n + 1, _, hV, hn => by
   have ih := sep_print_end (p := p) (f := f) (V := V) (E := E) hc hp hp0 (b :: l) n (by simp) (fun x hx => hV x (List.mem_cons_of_mem _ hx)) (by simp at hn ⊢; omega)
   rw [sepF, sepT]
   simp only [List.isEmpty_cons, Bool.false_eq_true, if_false]
   rw [hp a (hV a (by simp)) _ _ hc]
   have hy : isW s_cm (tS s_cm) = true := rfl
   simp only [Option.bind_some, take_hit hy, if_true, ih, Option.map_some]
theorem sepT_len {α : Type} {f : α → List Tk} (hf : ∀ a, 1 ≤ (f a).length) : ∀ l : List α, l.length ≤ (sepT f l).length
 | [] => Nat.zero_le _
 | a :: l => by
   have ih := sepT_len hf l
   have h1 := hf a
   rw [sepT]
   cases l with
   | nil => simpa using h1
   | cons b l =>
     simp only [List.isEmpty_cons, Bool.false_eq_true, if_false, List.length_append, List.length_cons] at ih ⊢
     omega
theorem cnum_c : ∀ n, n < 100 → cnum (cWord n) = some n := by decide +kernel
theorem cnum_lt {l : List UInt8} {n : Nat} (h : cnum l = some n) : n < 100 ∧ l = cWord n := by
 unfold cnum at h
 have h1 := List.find?_some h
 have h2 := List.mem_of_find?_eq_some h
 exact ⟨by simpa using h2, by simpa using h1⟩
theorem nd_head (x : Nd) : ∃ t r, ndT x = t :: r ∧ isW s_rb t = false ∧ isW s_qm t = false := by
 unfold ndT
 repeat' split
 all_goals exact ⟨_, _, rfl, rfl, rfl⟩
theorem step_print {x : Nd} (h : mayNd x = true) {t : Tk} (ht : isW s_qm t = false) (r : List Tk) : stepP (ndT x ++ t :: r) = some (x, t :: r) := by
 obtain ⟨op, n, v⟩ := x
 unfold mayNd at h
 simp only at h
 unfold ndT
 simp only
 by_cases h0 : op = 0
 · subst h0
   simp only [if_true, Bool.and_eq_true, Val.eq_iff] at h
   obtain ⟨hn, rfl⟩ := h
   unfold colB at hn
   simp only [Bool.and_eq_true, decide_eq_true_eq] at hn
   obtain ⟨m, rfl⟩ : ∃ m : Nat, n = m := ⟨n.toNat, by omega⟩
   have hm := cnum_c m (by omega)
   rw [if_neg (by decide), if_neg (by decide), if_pos rfl]
   simp only [List.cons_append, List.nil_append, Int.toNat_natCast]
   have e1 : isW w_null (tW (cWord m)) = false := rfl
   have e2 : isW w_true (tW (cWord m)) = false := rfl
   have e3 : isW w_false (tW (cWord m)) = false := rfl
   have e4 : oneF opWs 2 (tW (cWord m)) = none := rfl
   have e5 : (tW (cWord m)).t.data.toList = cWord m := rfl
   have e6 : ((tW (cWord m)).k == 1) = false := rfl
   have e7 : ((tW (cWord m)).k == 0) = true := rfl
   rw [stepP, e1, e2, e3, e4, e5, e6, e7, hm]
   rfl
 · rw [if_neg h0] at h
   by_cases h1 : op = 1
   · subst h1
     simp only [if_true, Bool.and_eq_true, decide_eq_true_eq] at h
     obtain ⟨rfl, hv⟩ := h
     rw [if_neg (by decide), if_pos rfl]
     split
     · rename_i hv2
       have := Val.eq_iff.1 hv2
       subst this
       have e1 : isW w_null (tW w_null) = true := rfl
       simp [stepP, e1, take_miss ht]
     split
     · rename_i hv2
       have := Val.eq_iff.1 hv2
       subst this
       rfl
     split
     · rename_i hv2
       have := Val.eq_iff.1 hv2
       subst this
       rfl
     · rfl
   · rw [if_neg h1] at h
     simp only [Bool.and_eq_true, decide_eq_true_eq, Val.eq_iff] at h
     obtain ⟨h2, h3, rfl, rfl⟩ := h
     have : op = 2 ∨ op = 3 ∨ op = 4 ∨ op = 5 ∨ op = 6 ∨ op = 7 ∨ op = 8 ∨ op = 9 ∨ op = 10 := by omega
     rcases this with rfl | rfl | rfl | rfl | rfl | rfl | rfl | rfl | rfl <;> rfl
theorem exprF_print (r : List Tk) : ∀ (e : List Nd) (n : Nat), (∀ x ∈ e, mayNd x = true) → e.length < n → exprF n (e.flatMap ndT ++ tS s_rb :: r) = some (e, r)
 | [], 0, _, hn => by simp at hn
 | [], n + 1, _, _ => by
   have e1 : isW s_rb (tS s_rb) = true := rfl
   simp [exprF, e1]
 | x :: e, 0, _, hn => by simp at hn
 | x :: e, n + 1, hV, hn => by
   have ih := exprF_print r e n (fun y hy => hV y (List.mem_cons_of_mem _ hy)) (by simp at hn; omega)
   obtain ⟨t, q, ht, h1, _⟩ := nd_head x
   have hs : ∃ u q', e.flatMap ndT ++ tS s_rb :: r = u :: q' ∧ isW s_qm u = false := by
    cases e with
    | nil => exact ⟨_, _, rfl, rfl⟩
    | cons y e =>
      obtain ⟨u, q', hu, _, h3⟩ := nd_head y
      exact ⟨u, q' ++ (e.flatMap ndT ++ tS s_rb :: r), by rw [List.flatMap_cons, hu]; simp, h3⟩
   obtain ⟨u, q', hu, h3⟩ := hs
   have hst := step_print (hV x (by simp)) h3 q'
   rw [← hu] at hst
   rw [List.flatMap_cons, List.append_assoc]
   rw [ht] at hst ⊢
   rw [List.cons_append] at hst ⊢
   rw [exprF, if_neg (by rw [h1]; simp), hst]
   simp only [Option.bind_some]
   rw [ih]
   rfl
theorem ndT_len (x : Nd) : 1 ≤ (ndT x).length := by
 obtain ⟨t, r, h, _⟩ := nd_head x
 rw [h]; simp
theorem flat_len1 {α β : Type} {f : α → List β} (hf : ∀ a, 1 ≤ (f a).length) : ∀ l : List α, l.length ≤ (l.flatMap f).length
 | [] => Nat.zero_le _
 | a :: l => by
   have := flat_len1 hf l
   have h1 := hf a
   rw [List.flatMap_cons, List.length_append, List.length_cons]
   omega
theorem expr_print {e : List Nd} (h : mayE e = true) (r : List Tk) : exprP (exprT e ++ r) = some (e, r) := by
 unfold mayE at h
 simp only [Bool.and_eq_true, decide_eq_true_eq, List.all_eq_true] at h
 have e1 : isW s_lb (tS s_lb) = true := rfl
 unfold exprP exprT
 simp only [List.cons_append, List.append_assoc, List.nil_append]
 rw [need_hit e1]
 simp only [Option.bind_some]
 rw [exprF_print r e _ h.2 (by
  have := flat_len1 ndT_len e
  simp only [List.length_append, List.length_cons]
  omega)]
 simp [h.1]
theorem checks_print : ∀ (l : List (List Nd)) (n : Nat), (∀ e ∈ l, mayE e = true) → l.length < n → checksF n (l.flatMap fun e => tW w_check :: exprT e) = some (l, [])
 | [], 0, _, hn => by simp at hn
 | [], n + 1, _, _ => rfl
 | e :: l, 0, _, hn => by simp at hn
 | e :: l, n + 1, hV, hn => by
   have ih := checks_print l n (fun y hy => hV y (List.mem_cons_of_mem _ hy)) (by simp at hn; omega)
   have e1 : isW w_check (tW w_check) = true := rfl
   rw [List.flatMap_cons, List.cons_append, checksF, take_hit e1]
   simp only [if_true]
   rw [expr_print (hV e (by simp))]
   simp only [Option.bind_some]
   rw [ih]
   rfl
theorem clT_len (c : Cl) : 1 ≤ (clT c).length := by simp [clT]
theorem table_print {t : Tb} (h : mayTb t = true) : tableP (tbT t) = some (t, []) := by
 obtain ⟨nm, cols, cks⟩ := t
 unfold mayTb at h
 simp only [Bool.and_eq_true, decide_eq_true_eq, List.all_eq_true, Bool.not_eq_true', List.isEmpty_eq_false_iff] at h
 obtain ⟨h1, h2, h3, h4, h5, h6⟩ := h
 have e1 : isW s_lp (tS s_lp) = true := rfl
 have e2 : isW s_rp (tS s_rp) = true := rfl
 unfold tableP tbT
 simp only
 rw [name_print h1]
 simp only [Option.bind_some]
 rw [need_hit e1]
 simp only [Option.bind_some]
 unfold sepP
 rw [sep_print (p := columnP) (f := clT) (V := fun c => mayCl c = true) (E := endC) (.inl rfl) (fun a ha t r ht => column_print ha ht r) cols _ _ _ h2 h5 (.inr rfl) rfl (by
  have := sepT_len clT_len cols
  simp only [List.length_append, List.length_cons]
  omega)]
 simp only [Option.bind_some]
 rw [need_hit e2]
 simp only [Option.bind_some]
 rw [checks_print cks _ h6 (by
  have := flat_len1 (f := fun e => tW w_check :: exprT e) (fun a => by simp) cks
  omega)]
 simp [h3, h4]
theorem agg_print {a : Ag} (h : mayAg a = true) (r : List Tk) : aggP (agT a ++ r) = some (a, r) := by
 obtain ⟨f, c⟩ := a
 unfold mayAg at h
 simp only at h
 unfold aggP agT
 simp only [List.cons_append]
 by_cases h0 : f = 0
 · subst h0
   simp only [if_true, decide_eq_true_eq] at h
   subst h
   rw [one_fn (by decide) (by decide)]
   rfl
 · rw [if_neg h0] at h ⊢
   simp only [Bool.and_eq_true, decide_eq_true_eq] at h
   rw [one_fn h.1 h.2.1]
   simp only [Option.bind_some, List.cons_append, List.nil_append]
   rw [if_neg h0, col_print h.2.2]
   rfl
theorem agT_len (a : Ag) : 1 ≤ (agT a).length := by simp [agT]
theorem join_print {v : Vw} (h : (if v.wth.toList.isEmpty then decide (v.on0 = 0) && decide (v.on1 = 0) else nameB v.wth.data.toList && (colB v.on0 && colB v.on1)) = true) {t : Tk} (ht : isW w_join t = false) (r : List Tk) :
 joinP ((if v.wth.toList.isEmpty then [] else [tW w_join, tN v.wth, tW w_on, intT v.on0, tS s_eq, intT v.on1]) ++ t :: r) = some ((v.wth, v.on0, v.on1), t :: r) := by
 obtain ⟨nm, fr, wt, o0, o1, wh, pk, g, ag⟩ := v
 simp only at *
 cases hw : wt.toList.isEmpty
 · rw [hw] at h
   simp only [Bool.false_eq_true, if_false, Bool.and_eq_true] at h
   have e1 : isW w_join (tW w_join) = true := rfl
   have e2 : isW w_on (tW w_on) = true := rfl
   have e3 : isW s_eq (tS s_eq) = true := rfl
   unfold joinP
   simp only [Bool.false_eq_true, if_false, List.cons_append, List.nil_append]
   rw [take_hit e1]
   simp only [if_true]
   rw [name_print h.1]
   simp only [Option.bind_some]
   rw [need_hit e2]
   simp only [Option.bind_some]
   rw [col_print h.2.1]
   simp only [Option.bind_some]
   rw [need_hit e3]
   simp only [Option.bind_some]
   rw [col_print h.2.2]
   rfl
 · rw [hw] at h
   simp only [if_true, Bool.and_eq_true, decide_eq_true_eq] at h
   have := emp_eq hw
   subst this
   obtain ⟨rfl, rfl⟩ := h
   unfold joinP
   simp [take_miss ht]
theorem where_print {e : List Nd} (h : mayE e = true) (r : List Tk) : whereP ((if e.isEmpty then [] else tW w_where :: exprT e) ++ tW w_pick :: r) = some (e, tW w_pick :: r) := by
 unfold whereP
 cases e with
 | nil =>
   have e1 : isW w_where (tW w_pick) = false := rfl
   simp [take_miss e1]
 | cons x e =>
   have e1 : isW w_where (tW w_where) = true := rfl
   simp only [List.isEmpty_cons, Bool.false_eq_true, if_false, List.cons_append]
   rw [take_hit e1]
   simp only [if_true]
   exact expr_print h _
def endP (t : Tk) : Prop := t = tS s_cm ∨ t = tW w_group
def grpT (g : Bool) (ag : List Ag) : List Tk := if g then tW w_group :: sepT agT ag else []
theorem picks_print {pk : List Int} (h : ∀ n ∈ pk, colB n = true) (g : Bool) (ag : List Ag) : picksP (sepT (fun n => [intT n]) pk ++ grpT g ag) = some (pk, grpT g ag) := by
 have hp : ∀ a, colB a = true → ∀ t r, endP t → colP ([intT a] ++ t :: r) = some (a, t :: r) := fun a ha t r _ => col_print ha _
 have hp0 : ∀ a, colB a = true → colP [intT a] = some (a, []) := fun a ha => col_print ha []
 have hl : pk.length ≤ (sepT (fun n => [intT n]) pk).length := sepT_len (fun _ => by simp) pk
 have eg : isW w_group (tW w_group) = true := rfl
 cases pk with
 | nil =>
   unfold picksP grpT sepT
   cases g
   · rfl
   · simp only [if_true, List.nil_append]
     rw [take_hit eg]
     simp
 | cons n pk =>
   have hh : ∃ q, sepT (fun n => [intT n]) (n :: pk) = intT n :: q := ⟨_, rfl⟩
   obtain ⟨q, hq⟩ := hh
   have em : isW w_group (intT n) = false := rfl
   have h0 : (((intT n :: q) ++ grpT g ag).isEmpty || (takeP w_group ((intT n :: q) ++ grpT g ag)).1) = false := by
    rw [List.cons_append, take_miss em]; rfl
   unfold picksP
   rw [hq, h0]
   simp only [Bool.false_eq_true, if_false]
   rw [← hq]
   unfold sepP grpT
   cases g
   · simp only [Bool.false_eq_true, if_false, List.append_nil]
     exact sep_print_end (p := colP) (f := fun n => [intT n]) (V := fun n => colB n = true) (E := endP) (.inl rfl) hp hp0 (n :: pk) _ (by simp) h (by omega)
   · simp only [if_true]
     exact sep_print (p := colP) (f := fun n => [intT n]) (V := fun n => colB n = true) (E := endP) (.inl rfl) hp (n :: pk) _ _ _ (by simp) h (.inr rfl) rfl (by
      simp only [List.length_append, List.length_cons] at hl ⊢
      omega)
theorem aggs_print {g : Bool} {ag : List Ag} (h : ∀ a ∈ ag, mayAg a = true) (hg : (g || ag.isEmpty) = true) : aggsP (grpT g ag) = some ((g, ag), []) := by
 have eg : isW w_group (tW w_group) = true := rfl
 unfold aggsP grpT
 cases g
 · simp only [Bool.false_or, List.isEmpty_iff] at hg
   subst hg
   rfl
 · simp only [if_true]
   rw [take_hit eg]
   cases ag with
   | nil => rfl
   | cons a ag =>
     have hh : ∃ t q, sepT agT (a :: ag) = t :: q := ⟨_, _, rfl⟩
     obtain ⟨t, q, hq⟩ := hh
     have hl := sepT_len agT_len (a :: ag)
     simp only [if_true]
     rw [hq]
     simp only [List.isEmpty_cons, Bool.false_eq_true, if_false]
     rw [← hq]
     unfold sepP
     rw [sep_print_end (p := aggP) (f := agT) (V := fun a => mayAg a = true) (E := fun _ => True) trivial (fun a ha t r _ => agg_print ha _) (fun a ha => by have := agg_print ha []; rwa [List.append_nil] at this) (a :: ag) _ (by simp) h (by omega)]
     rfl
theorem view_print {v : Vw} (h : mayVw v = true) : viewP (vwT v) = some (v, []) := by
 unfold mayVw at h
 simp only [Bool.and_eq_true, decide_eq_true_eq, List.all_eq_true] at h
 obtain ⟨h1, h2, h3, h4, h5, h6, h7, h8, h9⟩ := h
 have e1 : isW w_from (tW w_from) = true := rfl
 have e2 : isW w_pick (tW w_pick) = true := rfl
 unfold viewP vwT
 rw [name_print h1]
 simp only [Option.bind_some]
 rw [need_hit e1]
 simp only [Option.bind_some]
 rw [name_print h2]
 simp only [Option.bind_some]
 have hx : ∃ t r, (if v.whr.isEmpty then [] else tW w_where :: exprT v.whr) ++ tW w_pick :: (sepT (fun n => [intT n]) v.pick ++ grpT v.grp v.aggs) = t :: r ∧ isW w_join t = false := by
  cases v.whr with
  | nil => exact ⟨_, _, rfl, rfl⟩
  | cons x e => exact ⟨_, _, rfl, rfl⟩
 obtain ⟨t, r, hx, ht⟩ := hx
 have hg : (if v.grp = true then tW w_group :: sepT agT v.aggs else []) = grpT v.grp v.aggs := rfl
 rw [hg, hx, join_print h3 ht, ← hx]
 simp only [Option.bind_some]
 rw [where_print h4]
 simp only [Option.bind_some]
 rw [need_hit e2]
 simp only [Option.bind_some]
 rw [picks_print h6]
 simp only [Option.bind_some]
 rw [aggs_print h8 (by simpa using h9)]
 simp [h5, h7]
theorem parse_toks {d : Df} (h : MayD d) : parseD (toksD d) = some d := by
 obtain ⟨k, t, v⟩ := d
 rcases h with ⟨rfl, h1, rfl⟩ | ⟨rfl, rfl, h1⟩
 · have e : oneP [w_table, w_view] (tW w_table :: tbT t) = some (0, tbT t) := rfl
   unfold parseD toksD
   simp only [if_true]
   rw [e]
   simp only [Option.bind_some, if_true]
   rw [table_print h1]
   rfl
 · have e : oneP [w_table, w_view] (tW w_view :: vwT v) = some (1, vwT v) := rfl
   unfold parseD toksD
   have n1 : ¬ (1 : Int) = 0 := by decide
   simp only [if_neg n1]
   rw [e]
   simp only [Option.bind_some, if_neg n1]
   rw [view_print h1]
   rfl
end Go.Proofs.YtamekagminbejaaGreatDoor
namespace Go.Proofs.YtamekagminbejaaGreatDoor
open Go
set_option maxRecDepth 100000
structure En where
 n : ByteArray
 tb : Bool
 ks : List Int
 ns : List Bool
def nameD (d : Df) : ByteArray := if d.k = 0 then d.t.name else d.v.name
def findE (g : List En) (n : ByteArray) : Option En := g.find? fun e => decide (e.n = n)
def ksE (g : List En) (n : ByteArray) : List Int := match findE g n with
 | some e => e.ks
 | none => []
def joinedE (g : List En) (v : Vw) : List Int := ksE g v.frm ++ (if v.wth.toList.isEmpty then [] else ksE g v.wth)
def aggK (all : List Int) (a : Ag) : Int := if 2 ≤ a.fn then all.getD a.col.toNat 0 else 2
def kindsD (g : List En) (d : Df) : List Int := if d.k = 0 then d.t.cols.map (·.kind) else d.v.pick.map (fun n => (joinedE g d.v).getD n.toNat 0) ++ d.v.aggs.map (aggK (joinedE g d.v))
def nullsD (d : Df) : List Bool := if d.k = 0 then d.t.cols.map (·.nul) else List.replicate (d.v.pick.length + d.v.aggs.length) true
def enD (g : List En) (d : Df) : En := ⟨nameD d, decide (d.k = 0), kindsD g d, nullsD d⟩
def envF : List En → List Df → List En
 | g, [] => g
 | g, d :: r => envF (g ++ [enD g d]) r
def twiceC : List Cl → Bool
 | [] => false
 | c :: r => r.any (fun x => decide (x.name = c.name)) || twiceC r
def headBad : List Cl → Bool
 | [] => true
 | c :: _ => c.nul || (decide (c.kind = 1) || !c.ref.toList.isEmpty)
def colsBad (t : Tb) : Bool := twiceC t.cols || headBad t.cols
def refK (g : List En) (t : Tb) (r : ByteArray) : Option Int := if r = t.name then t.cols.head?.map (·.kind) else (findE g r).bind fun e => if e.tb then e.ks.head? else none
def refBad (g : List En) (t : Tb) (c : Cl) : Bool := !c.ref.toList.isEmpty && match refK g t c.ref with
 | none => true
 | some k => decide (c.kind ≠ k) || (decide (c.act = 2) && !c.nul)
def truthE (ty : List Nd → List Int → Int × Int) (e : List Nd) (cols : List Int) : Bool := decide ((ty e cols).2 = 0) && decide ((ty e cols).1 < 2)
def joinBad (g : List En) (v : Vw) : Bool := !v.wth.toList.isEmpty && (decide (v.on0 ≥ (ksE g v.frm).length) || (decide ((ksE g v.frm).length + v.on1 ≥ (joinedE g v).length) || decide ((joinedE g v).getD v.on0.toNat 0 ≠ (joinedE g v).getD ((ksE g v.frm).length + v.on1.toNat) 0)))
def aggBad (all : List Int) (a : Ag) : Bool := decide (a.fn ≠ 0) && (decide (a.col ≥ all.length) || (decide (a.fn = 1) && decide (all.getD a.col.toNat 0 ≠ 2)))
def viewBad (ty : List Nd → List Int → Int × Int) (g : List En) (v : Vw) : Bool :=
 (findE g v.frm).isNone || ((!v.wth.toList.isEmpty && (findE g v.wth).isNone) || (joinBad g v || ((!v.whr.isEmpty && !truthE ty v.whr (joinedE g v)) || (v.pick.any (fun n => decide (n ≥ (joinedE g v).length)) ||
   (v.aggs.any (aggBad (joinedE g v)) || ((!v.grp && !v.aggs.isEmpty) || (decide (v.pick.length + v.aggs.length = 0) || decide (40 < v.pick.length + v.aggs.length))))))))
def wrongE (ok : Df → Bool) (ty : List Nd → List Int → Int × Int) (g : List En) (d : Df) : Int :=
 if ok d = false then 1 else if 20 ≤ g.length then 95 else if (findE g (nameD d)).isSome then 90 else
 if d.k = 0 then (if colsBad d.t then 91 else if d.t.cols.any (refBad g d.t) then 92 else if d.t.checks.any (fun e => !truthE ty e (d.t.cols.map (·.kind))) then 93 else 0)
 else if viewBad ty g d.v then 94 else 0
def mayF (ok : Df → Bool) (ty : List Nd → List Int → Int × Int) : List En → List Df → Bool
 | _, [] => true
 | g, d :: r => decide (wrongE ok ty g d = 0) && mayF ok ty (g ++ [enD g d]) r
def mayC (ok : Df → Bool) (ty : List Nd → List Int → Int × Int) (c : List Df) : Bool := mayF ok ty [] c
def findN (n : ByteArray) : List Df → Nat → Int
 | [], _ => -1
 | d :: r, i => if nameD d = n then (i : Int) else findN n r (i + 1)
def findC (c : List Df) (n : ByteArray) : Int := findN n c 0
variable {ok : Df → Bool} {ty : List Nd → List Int → Int × Int}
theorem envF_len : ∀ (c : List Df) (g : List En), (envF g c).length = g.length + c.length
 | [], _ => rfl
 | d :: c, g => by
   rw [envF, envF_len c]
   simp only [List.length_append, List.length_cons, List.length_nil]; omega
theorem envF_app : ∀ (a b : List Df) (g : List En), envF g (a ++ b) = envF (envF g a) b
 | [], _, _ => rfl
 | d :: a, b, g => by rw [List.cons_append, envF, envF, envF_app a b]
theorem mayF_app : ∀ (a b : List Df) (g : List En), mayF ok ty g (a ++ b) = (mayF ok ty g a && mayF ok ty (envF g a) b)
 | [], _, _ => rfl
 | d :: a, b, g => by rw [List.cons_append, mayF, mayF, envF, mayF_app a b, Bool.and_assoc]
theorem may_take {c : List Df} (h : mayC ok ty c = true) (k : Nat) : mayC ok ty (c.take k) = true := by
 unfold mayC at *
 rw [← List.take_append_drop k c, mayF_app, Bool.and_eq_true] at h
 exact h.1
theorem may_at {c : List Df} (h : mayC ok ty c = true) {k : Nat} {d : Df} (hd : c[k]? = some d) : wrongE ok ty (envF [] (c.take k)) d = 0 := by
 have h1 := may_take h (k + 1)
 unfold mayC at h1
 rw [List.take_add_one, hd, mayF_app, Bool.and_eq_true] at h1
 have := h1.2
 simp only [Option.toList_some, mayF, Bool.and_true, decide_eq_true_eq] at this
 exact this
theorem may_add {c : List Df} {d : Df} : mayC ok ty (c ++ [d]) = (mayC ok ty c && decide (wrongE ok ty (envF [] c) d = 0)) := by
 unfold mayC
 rw [mayF_app]
 simp [mayF]
theorem may_of {c : List Df} (h : ∀ k d, c[k]? = some d → wrongE ok ty (envF [] (c.take k)) d = 0) : mayC ok ty c = true := by
 have gen : ∀ k, k ≤ c.length → mayC ok ty (c.take k) = true := by
  intro k
  induction k with
  | zero => intro _; rfl
  | succ k ih =>
    intro hk
    have hd : c[k]? = some c[k] := List.getElem?_eq_getElem (by omega)
    rw [List.take_add_one, hd]
    simp only [Option.toList_some]
    rw [may_add, ih (by omega), h k _ hd]; rfl
 have := gen c.length (Nat.le_refl _)
 rwa [List.take_length] at this
structure Fine (ok : Df → Bool) (ty : List Nd → List Int → Int × Int) (g : List En) (d : Df) : Prop where
 ok : ok d = true
 len : g.length < 20
 new : findE g (nameD d) = none
 tab : d.k = 0 → colsBad d.t = false ∧ d.t.cols.any (refBad g d.t) = false ∧ d.t.checks.any (fun e => !truthE ty e (d.t.cols.map (·.kind))) = false
 view : d.k ≠ 0 → viewBad ty g d.v = false
theorem wrong_fine {g : List En} {d : Df} : wrongE ok ty g d = 0 ↔ Fine ok ty g d := by
 constructor
 · intro h
   unfold wrongE at h
   split at h
   · cases h
   rename_i h1
   split at h
   · cases h
   rename_i h2
   split at h
   · cases h
   rename_i h3
   refine ⟨by simpa using h1, by omega, by simpa using h3, fun hk => ?_, fun hk => ?_⟩
   · rw [if_pos hk] at h
     split at h
     · cases h
     rename_i h4
     split at h
     · cases h
     rename_i h5
     split at h
     · cases h
     rename_i h6
     exact ⟨by simpa using h4, by simpa using h5, by simpa using h6⟩
   · rw [if_neg hk] at h
     split at h
     · cases h
     rename_i h4
     simpa using h4
 · rintro ⟨h1, h2, h3, h4, h5⟩
   unfold wrongE
   rw [if_neg (by simp [h1]), if_neg (by omega), if_neg (by simp [h3])]
   by_cases hk : d.k = 0
   · obtain ⟨a, b, c⟩ := h4 hk
     rw [if_pos hk, a, b, c]; rfl
   · rw [if_neg hk, h5 hk]; rfl
theorem findE_app (g h : List En) (n : ByteArray) : findE (g ++ h) n = match findE g n with | some e => some e | none => findE h n := by
 unfold findE
 rw [List.find?_append]
 cases g.find? fun e => decide (e.n = n) <;> rfl
theorem findE_keeps {g h : List En} {n : ByteArray} {e : En} (hf : findE g n = some e) : findE (g ++ h) n = some e := by rw [findE_app, hf]
theorem env_pre : ∀ (c : List Df) (g : List En), ∃ h, envF g c = g ++ h
 | [], g => ⟨[], by simp [envF]⟩
 | d :: c, g => by
   obtain ⟨h, e⟩ := env_pre c (g ++ [enD g d])
   exact ⟨enD g d :: h, by rw [envF, e]; simp⟩
theorem findN_env (n : ByteArray) : ∀ (c : List Df) (g : List En) (i : Nat), findE g n = none → (findE (envF g c) n).isSome = decide (0 ≤ findN n c i)
 | [], g, i, h => by simp [envF, h, findN]
 | d :: c, g, i, h => by
   rw [envF]
   unfold findN
   by_cases hd : nameD d = n
   · have : findE (g ++ [enD g d]) n = some (enD g d) := by
      rw [findE_app, h]
      simp [findE, enD, hd]
     obtain ⟨q, e⟩ := env_pre c (g ++ [enD g d])
     rw [e, findE_keeps this, if_pos hd]
     simp
   · rw [if_neg hd]
     refine findN_env n c _ (i + 1) ?_
     rw [findE_app, h]
     simp [findE, enD, hd]
theorem findC_env (c : List Df) (n : ByteArray) : (findE (envF [] c) n).isSome = decide (0 ≤ findC c n) := findN_env n c [] 0 rfl
theorem findN_other {n : ByteArray} : ∀ {c : List Df} {i : Nat}, (∀ d ∈ c, nameD d ≠ n) → findN n c i = -1
 | [], _, _ => rfl
 | d :: c, i, h => by
   unfold findN
   rw [if_neg (h d List.mem_cons_self)]
   exact findN_other fun x hx => h x (List.mem_cons_of_mem _ hx)
theorem findN_cons (n : ByteArray) (d : Df) (c : List Df) (i : Nat) : findN n (d :: c) i = if nameD d = n then (i : Int) else findN n c (i + 1) := rfl
structure GoodE (e : En) : Prop where
 ne : 1 ≤ e.ks.length
 le : e.ks.length ≤ 40
 kd : ∀ k ∈ e.ks, 1 ≤ k ∧ k ≤ 3
 nl : e.ns.length = e.ks.length
theorem ksE_good {g : List En} (h : ∀ e ∈ g, GoodE e) (n : ByteArray) : ∀ k ∈ ksE g n, 1 ≤ k ∧ k ≤ 3 := by
 intro k hk
 unfold ksE at hk
 split at hk
 · rename_i e he
   exact (h e (List.mem_of_find?_eq_some he)).kd k hk
 · cases hk
theorem joinedE_good {g : List En} (h : ∀ e ∈ g, GoodE e) (v : Vw) : ∀ k ∈ joinedE g v, 1 ≤ k ∧ k ≤ 3 := by
 intro k hk
 unfold joinedE at hk
 rcases List.mem_append.1 hk with hk | hk
 · exact ksE_good h _ k hk
 · split at hk
   · cases hk
   · exact ksE_good h _ k hk
theorem getD_good {l : List Int} (h : ∀ k ∈ l, 1 ≤ k ∧ k ≤ 3) {n : Int} (h0 : 0 ≤ n) (hn : n < l.length) : 1 ≤ l.getD n.toNat 0 ∧ l.getD n.toNat 0 ≤ 3 := by
 have hlt : n.toNat < l.length := by omega
 rw [List.getD_eq_getElem?_getD, List.getElem?_eq_getElem hlt]
 exact h _ (List.getElem_mem hlt)
structure FineV (ty : List Nd → List Int → Int × Int) (g : List En) (v : Vw) : Prop where
 frm : (findE g v.frm).isSome = true
 wth : v.wth.toList.isEmpty = false → (findE g v.wth).isSome = true
 join : joinBad g v = false
 whr : v.whr.isEmpty = false → truthE ty v.whr (joinedE g v) = true
 pick : ∀ n ∈ v.pick, n < (joinedE g v).length
 aggs : ∀ a ∈ v.aggs, aggBad (joinedE g v) a = false
 grp : v.grp = false → v.aggs = []
 few : 1 ≤ v.pick.length + v.aggs.length ∧ v.pick.length + v.aggs.length ≤ 40
theorem view_fine {g : List En} {v : Vw} : viewBad ty g v = false ↔ FineV ty g v := by
 unfold viewBad
 simp only [Bool.or_eq_false_iff, Bool.and_eq_false_iff, Bool.not_eq_false', List.any_eq_false, decide_eq_true_eq, decide_eq_false_iff_not, Option.isNone_eq_false_iff]
 constructor
 · rintro ⟨h1, h2, h3, h4, h5, h6, h7, h8, h9⟩
   refine ⟨by simpa using h1, fun hw => ?_, h3, fun hw => ?_, fun n hn => by have := h5 n hn; omega, fun a ha => by simpa using h6 a ha, fun hg => ?_, by omega⟩
   · rcases h2 with h | h
     · rw [hw] at h; cases h
     · simpa using h
   · rcases h4 with h | h
     · rw [hw] at h; cases h
     · exact h
   · rcases h7 with h | h
     · rw [hg] at h; cases h
     · simpa using h
 · rintro ⟨h1, h2, h3, h4, h5, h6, h7, h8⟩
   refine ⟨by simpa using h1, ?_, h3, ?_, fun n hn => by have := h5 n hn; omega, fun a ha => by simpa using h6 a ha, ?_, by omega, by omega⟩
   · cases hw : v.wth.toList.isEmpty
     · right; simpa using h2 hw
     · left; rfl
   · cases hw : v.whr.isEmpty
     · right; exact h4 hw
     · left; rfl
   · cases hg : v.grp
     · right; rw [h7 hg]; rfl
     · left; rfl
theorem may_tb {d : Df} (h : MayD d) (hk : d.k = 0) : mayTb d.t = true := by
 rcases h with ⟨_, h, _⟩ | ⟨h, _⟩
 · exact h
 · omega
theorem may_vw {d : Df} (h : MayD d) (hk : d.k ≠ 0) : d.k = 1 ∧ mayVw d.v = true := by
 rcases h with ⟨h, _⟩ | ⟨h, _, h2⟩
 · exact absurd h hk
 · exact ⟨h, h2⟩
theorem kindsD_len (g : List En) (d : Df) : (kindsD g d).length = (nullsD d).length := by
 unfold kindsD nullsD
 split <;> simp
theorem enD_good {g : List En} {d : Df} (hm : MayD d) (hf : Fine ok ty g d) (hg : ∀ e ∈ g, GoodE e) : GoodE (enD g d) := by
 by_cases hk : d.k = 0
 · have ht := may_tb hm hk
   unfold mayTb at ht
   simp only [Bool.and_eq_true, List.all_eq_true, decide_eq_true_eq, Bool.not_eq_true', List.isEmpty_eq_false_iff] at ht
   obtain ⟨_, h2, h3, _, h5, _⟩ := ht
   have e : kindsD g d = d.t.cols.map (·.kind) := by unfold kindsD; rw [if_pos hk]
   refine ⟨?_, ?_, ?_, (kindsD_len g d).symm⟩
   · show 1 ≤ (kindsD g d).length
     rw [e, List.length_map]; exact List.length_pos_iff.2 h2
   · show (kindsD g d).length ≤ 40
     rw [e, List.length_map]; exact h3
   · intro k hk'
     have hk' : k ∈ kindsD g d := hk'
     rw [e] at hk'
     obtain ⟨c, hc, rfl⟩ := List.mem_map.1 hk'
     have := h5 c hc
     unfold mayCl at this
     simp only [Bool.and_eq_true, decide_eq_true_eq] at this
     exact ⟨this.2.1, this.2.2.1⟩
 · obtain ⟨_, hv⟩ := may_vw hm hk
   have hb := view_fine.1 (hf.view hk)
   unfold mayVw at hv
   simp only [Bool.and_eq_true, List.all_eq_true, decide_eq_true_eq] at hv
   obtain ⟨_, _, _, _, _, h6, _, h8, _⟩ := hv
   have e : kindsD g d = d.v.pick.map (fun n => (joinedE g d.v).getD n.toNat 0) ++ d.v.aggs.map (aggK (joinedE g d.v)) := by unfold kindsD; rw [if_neg hk]
   have hj := joinedE_good hg d.v
   refine ⟨?_, ?_, ?_, (kindsD_len g d).symm⟩
   · show 1 ≤ (kindsD g d).length
     rw [e, List.length_append, List.length_map, List.length_map]; exact hb.few.1
   · show (kindsD g d).length ≤ 40
     rw [e, List.length_append, List.length_map, List.length_map]; exact hb.few.2
   · intro k hk'
     have hk' : k ∈ kindsD g d := hk'
     rw [e] at hk'
     rcases List.mem_append.1 hk' with h | h
     · obtain ⟨n, hn, rfl⟩ := List.mem_map.1 h
       have h0 := h6 n hn
       unfold colB at h0
       simp only [Bool.and_eq_true, decide_eq_true_eq] at h0
       exact getD_good hj h0.1 (hb.pick n hn)
     · obtain ⟨a, ha, rfl⟩ := List.mem_map.1 h
       unfold aggK
       split
       · rename_i h2
         have ham := h8 a ha
         unfold mayAg at ham
         rw [if_neg (by omega)] at ham
         unfold colB at ham
         simp only [Bool.and_eq_true, decide_eq_true_eq] at ham
         have hab := hb.aggs a ha
         unfold aggBad at hab
         rw [Bool.and_eq_false_iff] at hab
         rcases hab with hab | hab
         · simp at hab; omega
         · simp only [Bool.or_eq_false_iff, decide_eq_false_iff_not] at hab
           exact getD_good hj ham.2.2.1 (by have := hab.1; omega)
       · omega
theorem envF_good (hok : ∀ d, ok d = true → MayD d) : ∀ (c : List Df) (g : List En), mayF ok ty g c = true → (∀ e ∈ g, GoodE e) → ∀ e ∈ envF g c, GoodE e
 | [], _, _, hg => hg
 | d :: c, g, h, hg => by
   rw [mayF, Bool.and_eq_true, decide_eq_true_eq] at h
   have hf := wrong_fine.1 h.1
   rw [envF]
   refine envF_good hok c _ h.2 fun e he => ?_
   rcases List.mem_append.1 he with he | he
   · exact hg e he
   · obtain rfl := List.mem_singleton.1 he
     exact enD_good (hok d hf.ok) hf hg
theorem env_good (hok : ∀ d, ok d = true → MayD d) {c : List Df} (h : mayC ok ty c = true) : ∀ e ∈ envF [] c, GoodE e := envF_good hok c [] h fun e he => by cases he
theorem env_add (c : List Df) (d : Df) : envF [] (c ++ [d]) = envF [] c ++ [enD (envF [] c) d] := by rw [envF_app]; rfl
theorem kinds_table {g : List En} {d : Df} (hk : d.k = 0) : kindsD g d = d.t.cols.map (·.kind) ∧ nullsD d = d.t.cols.map (·.nul) := by
 unfold kindsD nullsD
 rw [if_pos hk, if_pos hk]
 exact ⟨rfl, rfl⟩
theorem plain_wrong {g : List En} {d : Df} (ho : ok d = true) (hg : g.length < 20) (hn : findE g (nameD d) = none) (hk : d.k = 0) (hc : colsBad d.t = false) (hr : ∀ x ∈ d.t.cols, x.ref.toList.isEmpty = true) (he : d.t.checks = []) : wrongE ok ty g d = 0 := by
 refine wrong_fine.2 ⟨ho, hg, hn, fun _ => ⟨hc, ?_, by rw [he]; rfl⟩, fun h => absurd hk h⟩
 rw [List.any_eq_false]
 intro x hx
 unfold refBad
 rw [hr x hx]
 simp
end Go.Proofs.YtamekagminbejaaGreatDoor
namespace Go.Proofs.YtamekagminbejaaGreatDoor
open Go
set_option maxRecDepth 100000
def kAt (ks : List Int) (n : Int) : Int := if n < 0 ∨ (ks.length : Int) ≤ n then 0 else ks.getD n.toNat 0
def scAgg (fk : List Int) (a : Ag) : Int := if a.fn = 0 then 2 else if a.fn = 1 ∧ kAt fk a.col ≠ 2 then 0 else kAt fk a.col
def scRes (v : Vw) (fk : List Int) : List Int := v.pick.map (kAt fk) ++ v.aggs.map (scAgg fk)
def scJoin (g : List En) (v : Vw) : Option (List Int) := match findE g v.frm with
 | none => none
 | some f => if v.wth.toList.isEmpty then some f.ks else match findE g v.wth with
   | none => none
   | some e => if kAt f.ks v.on0 = 0 ∨ kAt f.ks v.on0 ≠ kAt e.ks v.on1 then none else some (f.ks ++ e.ks)
def scAsk (ty : List Nd → List Int → Int × Int) (v : Vw) (fk : List Int) : Bool := (!v.whr.isEmpty && !truthE ty v.whr fk) || (!v.aggs.isEmpty && !v.grp)
def scKs (ks : List Int) : Bool := decide (ks.length = 0) || (decide (40 < ks.length) || ks.contains 0)
def scView (ty : List Nd → List Int → Int × Int) (g : List En) (v : Vw) : Option En := match scJoin g v with
 | none => none
 | some fk => if scAsk ty v fk then none else if scKs (scRes v fk) then none else some ⟨v.name, false, scRes v fk, List.replicate (scRes v fk).length true⟩
theorem kAt_in {ks : List Int} {n : Int} (h : kAt ks n ≠ 0) : 0 ≤ n ∧ n < ks.length ∧ kAt ks n = ks.getD n.toNat 0 := by
 unfold kAt at *
 split at h
 · exact absurd rfl h
 · rename_i hn
   rw [if_neg hn]
   exact ⟨by omega, by omega, rfl⟩
theorem kAt_at {ks : List Int} {n : Int} (h0 : 0 ≤ n) (h : n < ks.length) : kAt ks n = ks.getD n.toNat 0 := by
 unfold kAt
 rw [if_neg (by omega)]
theorem kAt_good {ks : List Int} (hk : ∀ k ∈ ks, 1 ≤ k ∧ k ≤ 3) {n : Int} (h0 : 0 ≤ n) (h : n < ks.length) : kAt ks n ≠ 0 := by
 rw [kAt_at h0 h]
 have := getD_good hk h0 h
 omega
theorem ksE_some {g : List En} {n : ByteArray} {e : En} (h : findE g n = some e) : ksE g n = e.ks := by unfold ksE; rw [h]
theorem joinedE_one {g : List En} {v : Vw} {f : En} (h : findE g v.frm = some f) (hw : v.wth.toList.isEmpty = true) : joinedE g v = f.ks := by
 unfold joinedE
 rw [ksE_some h, if_pos hw, List.append_nil]
theorem joinedE_two {g : List En} {v : Vw} {f e : En} (h : findE g v.frm = some f) (hw : v.wth.toList.isEmpty = false) (h2 : findE g v.wth = some e) : joinedE g v = f.ks ++ e.ks := by
 unfold joinedE
 rw [ksE_some h, ksE_some h2, if_neg (by simp [hw])]
theorem getD_left {a b : List Int} {n : Nat} (h : n < a.length) : (a ++ b).getD n 0 = a.getD n 0 := by
 rw [List.getD_eq_getElem?_getD, List.getD_eq_getElem?_getD, List.getElem?_append_left h]
theorem getD_right {a b : List Int} {n : Nat} : (a ++ b).getD (a.length + n) 0 = b.getD n 0 := by
 rw [List.getD_eq_getElem?_getD, List.getD_eq_getElem?_getD, List.getElem?_append_right (by omega), Nat.add_sub_cancel_left]
theorem join_p {g : List En} (hg : ∀ e ∈ g, GoodE e) {v : Vw} (hv : mayVw v = true) {fk : List Int} : scJoin g v = some fk ↔ ((findE g v.frm).isSome = true ∧ (v.wth.toList.isEmpty = false → (findE g v.wth).isSome = true) ∧ joinBad g v = false) ∧ fk = joinedE g v := by
 unfold mayVw at hv
 simp only [Bool.and_eq_true] at hv
 have hon := hv.2.2.1
 unfold scJoin
 cases hf : findE g v.frm with
 | none => simp
 | some f =>
   have gf := hg f (List.mem_of_find?_eq_some hf)
   cases hw : v.wth.toList.isEmpty with
   | true =>
     simp only [if_true]
     rw [joinedE_one hf hw]
     have hjb : joinBad g v = false := by unfold joinBad; rw [hw]; rfl
     constructor
     · intro h
       exact ⟨⟨rfl, (fun h => by cases h), hjb⟩, (Option.some.inj h).symm⟩
     · rintro ⟨_, rfl⟩; rfl
   | false =>
     rw [hw] at hon
     simp only [Bool.false_eq_true, if_false, Bool.and_eq_true, colB, decide_eq_true_eq] at hon ⊢
     obtain ⟨_, ⟨o1, _⟩, o2, _⟩ := hon
     cases h2 : findE g v.wth with
     | none => simp
     | some e =>
       have ge := hg e (List.mem_of_find?_eq_some h2)
       rw [joinedE_two hf hw h2]
       have hjb : joinBad g v = false ↔ (v.on0 < f.ks.length ∧ v.on1 < e.ks.length ∧ kAt f.ks v.on0 = kAt e.ks v.on1) := by
        unfold joinBad
        rw [hw, ksE_some hf, joinedE_two hf hw h2]
        simp only [Bool.not_false, Bool.true_and, Bool.or_eq_false_iff, decide_eq_false_iff_not, List.length_append, Decidable.not_not]
        constructor
        · rintro ⟨a, b, c⟩
          have a' : v.on0 < f.ks.length := by omega
          have b' : v.on1 < e.ks.length := by omega
          rw [getD_left (by omega), getD_right] at c
          exact ⟨a', b', by rw [kAt_at o1 a', kAt_at o2 b', c]⟩
        · rintro ⟨a, b, c⟩
          refine ⟨by omega, by omega, ?_⟩
          rw [getD_left (by omega), getD_right, ← kAt_at o1 a, ← kAt_at o2 b, c]
       simp only [Option.isSome_some, true_and, forall_const, hjb]
       by_cases hc : kAt f.ks v.on0 = 0 ∨ kAt f.ks v.on0 ≠ kAt e.ks v.on1
       · rw [if_pos hc]
         constructor
         · intro h; cases h
         · rintro ⟨⟨a, b, c⟩, _⟩
           rcases hc with hc | hc
           · exact absurd hc (kAt_good gf.kd o1 a)
           · exact absurd c hc
       · rw [if_neg hc]
         have h0 : kAt f.ks v.on0 ≠ 0 := fun h => hc (.inl h)
         have h1 : kAt f.ks v.on0 = kAt e.ks v.on1 := Decidable.not_not.1 fun h => hc (.inr h)
         have a := kAt_in h0
         rw [h1] at h0
         have b := kAt_in h0
         constructor
         · intro h
           exact ⟨⟨a.2.1, b.2.1, h1⟩, (Option.some.inj h).symm⟩
         · rintro ⟨_, rfl⟩; rfl
theorem res_p {v : Vw} (hv : mayVw v = true) {fk : List Int} (hk : ∀ k ∈ fk, 1 ≤ k ∧ k ≤ 3) : (scRes v fk).contains 0 = false ↔ ((∀ n ∈ v.pick, n < fk.length) ∧ ∀ a ∈ v.aggs, aggBad fk a = false) := by
 unfold mayVw at hv
 simp only [Bool.and_eq_true, List.all_eq_true, colB, decide_eq_true_eq] at hv
 have hp := hv.2.2.2.2.2.1
 have ha := hv.2.2.2.2.2.2.2.1
 have hone : ∀ a ∈ v.aggs, scAgg fk a ≠ 0 ↔ aggBad fk a = false := by
  intro a ham
  have hm := ha a ham
  unfold mayAg at hm
  unfold scAgg aggBad
  by_cases h0 : a.fn = 0
  · rw [if_pos h0]; simp [h0]
  · rw [if_neg h0] at hm ⊢
    simp only [colB, Bool.and_eq_true, decide_eq_true_eq] at hm
    obtain ⟨m1, m2, m3, m4⟩ := hm
    simp only [h0, ne_eq, not_false_eq_true, decide_true, Bool.true_and, Bool.or_eq_false_iff, decide_eq_false_iff_not, Bool.and_eq_false_iff]
    constructor
    · intro h
      have hk0 : kAt fk a.col ≠ 0 := by
       intro hz
       rw [hz] at h
       split at h <;> exact h rfl
      have hi := kAt_in hk0
      refine ⟨by omega, ?_⟩
      by_cases h1 : a.fn = 1
      · right
        by_cases h2 : kAt fk a.col = 2
        · rw [← hi.2.2, h2]; simp
        · rw [if_pos ⟨h1, h2⟩] at h; exact absurd rfl h
      · left; exact h1
    · rintro ⟨h1, h2⟩
      have hl : a.col < fk.length := by omega
      have hk2 := kAt_good hk m3 hl
      rw [← kAt_at m3 hl] at h2
      rw [if_neg]
      · exact hk2
      · rintro ⟨h3, h4⟩
        rcases h2 with h2 | h2
        · exact h2 h3
        · exact h2 h4
 rw [← Bool.not_eq_true, List.contains_iff_mem]
 unfold scRes
 rw [List.mem_append, List.mem_map, List.mem_map]
 constructor
 · intro h
   refine ⟨fun n hn => ?_, fun a ham => (hone a ham).1 fun hz => h (.inr ⟨a, ham, hz⟩)⟩
   exact (kAt_in (fun hz => h (.inl ⟨n, hn, hz⟩))).2.1
 · rintro ⟨h1, h2⟩ (⟨n, hn, hz⟩ | ⟨a, ham, hz⟩)
   · exact kAt_good hk (hp n hn).1 (h1 n hn) hz
   · exact (hone a ham).2 (h2 a ham) hz
variable {ty : List Nd → List Int → Int × Int}
theorem scRes_kinds {g : List En} {d : Df} (hv : mayVw d.v = true) (hk : d.k ≠ 0) (h : FineV ty g d.v) (hg : ∀ e ∈ g, GoodE e) : scRes d.v (joinedE g d.v) = kindsD g d := by
 have hj := joinedE_good hg d.v
 unfold mayVw at hv
 simp only [Bool.and_eq_true, List.all_eq_true, colB, decide_eq_true_eq] at hv
 have hp := hv.2.2.2.2.2.1
 have ha := hv.2.2.2.2.2.2.2.1
 unfold scRes kindsD
 rw [if_neg hk]
 congr 1
 · exact List.map_congr_left fun n hn => kAt_at (hp n hn).1 (h.pick n hn)
 · refine List.map_congr_left fun a ham => ?_
   have hm := ha a ham
   have hb := h.aggs a ham
   unfold mayAg at hm
   unfold aggBad at hb
   unfold scAgg aggK
   by_cases h0 : a.fn = 0
   · have h3 : ¬ 2 ≤ a.fn := by omega
     rw [if_pos h0, if_neg h3]
   · rw [if_neg h0] at hm ⊢
     simp only [colB, Bool.and_eq_true, decide_eq_true_eq] at hm
     obtain ⟨m1, m2, m3, m4⟩ := hm
     simp only [h0, ne_eq, not_false_eq_true, decide_true, Bool.true_and, Bool.or_eq_false_iff, decide_eq_false_iff_not, Bool.and_eq_false_iff] at hb
     have hl : a.col < (joinedE g d.v).length := by omega
     rw [kAt_at m3 hl]
     by_cases h1 : a.fn = 1
     · have h3 : ¬ 2 ≤ a.fn := by omega
       rw [if_neg h3]
       have h2 : (joinedE g d.v).getD a.col.toNat 0 = 2 := by
        rcases hb.2 with h | h
        · exact absurd h1 h
        · exact Decidable.not_not.1 h
       rw [h2]
       simp
     · have h3 : 2 ≤ a.fn := by omega
       have h4 : ¬ (a.fn = 1 ∧ (joinedE g d.v).getD a.col.toNat 0 ≠ 2) := fun h => h1 h.1
       rw [if_pos h3, if_neg h4]
theorem view_p {g : List En} (hg : ∀ e ∈ g, GoodE e) {d : Df} (hv : mayVw d.v = true) (hk : d.k ≠ 0) : scView ty g d.v = if viewBad ty g d.v = true then none else some (enD g d) := by
 have hj := joinedE_good hg d.v
 have key : ∀ e, scView ty g d.v = some e ↔ FineV ty g d.v ∧ e = enD g d := by
  intro e
  unfold scView
  constructor
  · intro h
    split at h
    · cases h
    rename_i fk hfk
    obtain ⟨⟨a1, a2, a3⟩, rfl⟩ := (join_p hg hv).1 hfk
    split at h
    · cases h
    rename_i hask
    split at h
    · cases h
    rename_i hks
    unfold scAsk at hask
    simp only [Bool.not_eq_true, Bool.or_eq_false_iff, Bool.and_eq_false_iff, Bool.not_eq_false'] at hask
    unfold scKs at hks
    simp only [Bool.not_eq_true, Bool.or_eq_false_iff, decide_eq_false_iff_not] at hks
    obtain ⟨k1, k2, k3⟩ := hks
    have hr := (res_p hv hj).1 k3
    have hl : (scRes d.v (joinedE g d.v)).length = d.v.pick.length + d.v.aggs.length := by unfold scRes; simp
    have hF : FineV ty g d.v := by
     refine ⟨a1, a2, a3, fun hw => ?_, hr.1, hr.2, fun hgp => ?_, by omega⟩
     · rcases hask.1 with h | h
       · rw [hw] at h; cases h
       · exact h
     · rcases hask.2 with h | h
       · simpa using h
       · rw [hgp] at h; cases h
    refine ⟨hF, ?_⟩
    rw [← Option.some.inj h]
    unfold enD nameD nullsD
    rw [if_neg hk, if_neg hk, ← scRes_kinds hv hk hF hg, hl]
    simp [hk]
  · rintro ⟨hF, rfl⟩
    rw [(join_p hg hv).2 ⟨⟨hF.frm, hF.wth, hF.join⟩, rfl⟩]
    have hask : scAsk ty d.v (joinedE g d.v) = false := by
     unfold scAsk
     simp only [Bool.or_eq_false_iff, Bool.and_eq_false_iff, Bool.not_eq_false']
     refine ⟨?_, ?_⟩
     · cases hw : d.v.whr.isEmpty
       · right; exact hF.whr hw
       · left; rfl
     · cases hgp : d.v.grp
       · left; rw [hF.grp hgp]; rfl
       · right; rfl
    have hl : (scRes d.v (joinedE g d.v)).length = d.v.pick.length + d.v.aggs.length := by unfold scRes; simp
    have hks : scKs (scRes d.v (joinedE g d.v)) = false := by
     unfold scKs
     rw [(res_p hv hj).2 ⟨hF.pick, hF.aggs⟩, hl]
     have := hF.few
     simp only [Bool.or_false, Bool.or_eq_false_iff, decide_eq_false_iff_not]
     omega
    simp only [hask, hks, Bool.false_eq_true, if_false]
    unfold enD nameD nullsD
    rw [if_neg hk, if_neg hk, ← scRes_kinds hv hk hF hg, hl]
    simp [hk]
 cases hb : viewBad ty g d.v with
 | true =>
   rw [if_pos rfl]
   cases hp : scView ty g d.v with
   | none => rfl
   | some e =>
     have := view_fine.2 ((key e).1 hp).1
     rw [hb] at this; cases this
 | false =>
   rw [if_neg (by simp)]
   exact (key _).2 ⟨view_fine.1 hb, rfl⟩
def scRef (all : List En) (c : Cl) : Bool := if c.ref.toList.isEmpty then true else match findE all c.ref with
 | none => false
 | some e => e.tb && (decide (kAt e.ks 0 = c.kind) && (decide (c.act ≠ 2) || c.nul))
theorem ref_p {g : List En} (hg : ∀ e ∈ g, GoodE e) {d : Df} (hk : d.k = 0) (hm : MayD d) (hn : findE g d.t.name = none) {c : Cl} (hc : c ∈ d.t.cols) : scRef (g ++ [enD g d]) c = !refBad g d.t c := by
 unfold scRef refBad
 cases hr : c.ref.toList.isEmpty with
 | true => rfl
 | false =>
   simp only [Bool.false_eq_true, if_false, Bool.not_false, Bool.true_and]
   rw [findE_app]
   unfold refK
   by_cases he : c.ref = d.t.name
   · rw [he, hn]
     have hl : findE [enD g d] d.t.name = some (enD g d) := by
      unfold findE enD nameD
      simp [hk]
     simp only [hl, if_true]
     have hne : d.t.cols ≠ [] := List.ne_nil_of_mem hc
     cases hcs : d.t.cols with
     | nil => exact absurd hcs hne
     | cons x r =>
       have e1 : kAt (enD g d).ks 0 = x.kind := by
        show kAt (kindsD g d) 0 = _
        rw [(kinds_table hk).1, hcs, kAt_at (by omega) (by simp)]
        rfl
       have e2 : (enD g d).tb = true := decide_eq_true hk
       rw [e1, e2]
       simp only [Bool.true_and, List.head?_cons, Option.map_some]
       by_cases h1 : c.kind = x.kind
       · simp [h1]
       · simp [h1, Ne.symm h1]
   · rw [if_neg he]
     have hl : findE [enD g d] c.ref = none := by
      unfold findE enD nameD
      simp [hk, Ne.symm he]
     cases hf : findE g c.ref with
     | none => simp [hl]
     | some e =>
       have ge := hg e (List.mem_of_find?_eq_some hf)
       simp only [Option.bind_some]
       cases ht : e.tb with
       | false => simp
       | true =>
         have : ∃ k r, e.ks = k :: r := by
          cases hks : e.ks with
          | nil => have := ge.ne; rw [hks] at this; simp at this
          | cons k r => exact ⟨k, r, rfl⟩
         obtain ⟨k, r, hks⟩ := this
         have e1 : kAt e.ks 0 = k := by rw [kAt_at (by omega) (by have := ge.ne; omega), hks]; rfl
         rw [e1, hks]
         simp only [if_true, Bool.true_and, List.head?_cons]
         by_cases h1 : c.kind = k
         · simp [h1]
         · simp [h1, Ne.symm h1]
def scKey (c : Cl) : Bool := !c.nul && (decide (c.kind ≠ 1) && c.ref.toList.isEmpty)
def scShare (cs : List Cl) (k : Nat) : Bool := (cs.take k).any fun x => decide (x.name = (cs.getD k ⟨emp, 0, false, false, emp, 0⟩).name)
theorem twice_take : ∀ (cs : List Cl), twiceC cs = (List.range cs.length).any (scShare cs) := by
 intro cs
 rw [Bool.eq_iff_iff, List.any_eq_true]
 have gen : ∀ cs : List Cl, twiceC cs = true ↔ ∃ (i j : Nat) (x y : Cl), i < j ∧ cs[i]? = some x ∧ cs[j]? = some y ∧ x.name = y.name := by
  intro cs
  induction cs with
  | nil => simp [twiceC]
  | cons c r ih =>
    rw [twiceC, Bool.or_eq_true, ih, List.any_eq_true]
    constructor
    · rintro (⟨x, hx, he⟩ | ⟨i, j, x, y, h1, h2, h3, h4⟩)
      · obtain ⟨j, hj⟩ := List.getElem?_of_mem hx
        exact ⟨0, j + 1, c, x, by omega, rfl, by simpa using hj, (of_decide_eq_true he).symm⟩
      · exact ⟨i + 1, j + 1, x, y, by omega, by simpa using h2, by simpa using h3, h4⟩
    · rintro ⟨i, j, x, y, h1, h2, h3, h4⟩
      obtain ⟨j, rfl⟩ : ∃ j', j = j' + 1 := ⟨j - 1, by omega⟩
      cases i with
      | zero =>
        left
        obtain rfl : c = x := by simpa using h2
        exact ⟨y, List.mem_of_getElem? (by simpa using h3), decide_eq_true h4.symm⟩
      | succ i =>
        right
        exact ⟨i, j, x, y, by omega, by simpa using h2, by simpa using h3, h4⟩
 rw [gen]
 constructor
 · rintro ⟨i, j, x, y, h1, h2, h3, h4⟩
   have hj := (List.getElem?_eq_some_iff.1 h3).1
   refine ⟨j, List.mem_range.2 hj, ?_⟩
   unfold scShare
   rw [List.any_eq_true]
   refine ⟨x, List.mem_of_getElem? (i := i) (by rw [List.getElem?_take, if_pos h1]; exact h2), ?_⟩
   rw [List.getD_eq_getElem?_getD, h3]
   exact decide_eq_true h4
 · rintro ⟨j, hj, h⟩
   rw [List.mem_range] at hj
   unfold scShare at h
   rw [List.any_eq_true] at h
   obtain ⟨x, hx, he⟩ := h
   obtain ⟨i, hi⟩ := List.getElem?_of_mem hx
   rw [List.getElem?_take] at hi
   split at hi
   · rename_i hlt
     refine ⟨i, j, x, cs[j], hlt, hi, List.getElem?_eq_getElem hj, ?_⟩
     rw [List.getD_eq_getElem?_getD, List.getElem?_eq_getElem hj] at he
     exact of_decide_eq_true he
   · cases hi
def scTab (ty : List Nd → List Int → Int × Int) (all : List En) (t : Tb) : Int :=
 if !scKey (t.cols.getD 0 ⟨emp, 0, false, false, emp, 0⟩) || twiceC t.cols then 91 else if t.cols.any (fun c => !scRef all c) then 92 else if t.checks.any (fun e => !truthE ty e (t.cols.map (·.kind))) then 93 else 0
theorem tab_p {g : List En} (hg : ∀ e ∈ g, GoodE e) {d : Df} (hk : d.k = 0) (hm : MayD d) (hn : findE g d.t.name = none) :
 scTab ty (g ++ [enD g d]) d.t = if colsBad d.t then 91 else if d.t.cols.any (refBad g d.t) then 92 else if d.t.checks.any (fun e => !truthE ty e (d.t.cols.map (·.kind))) then 93 else 0 := by
 unfold scTab
 have e1 : (!scKey (d.t.cols.getD 0 ⟨emp, 0, false, false, emp, 0⟩) || twiceC d.t.cols) = colsBad d.t := by
  unfold colsBad
  have ht := may_tb hm hk
  unfold mayTb at ht
  simp only [Bool.and_eq_true, Bool.not_eq_true', List.isEmpty_eq_false_iff] at ht
  cases hc : d.t.cols with
  | nil => exact absurd hc ht.2.1
  | cons x r =>
    unfold headBad scKey
    simp only [List.getD_cons_zero]
    rw [Bool.or_comm]
    congr 1
    by_cases h1 : x.kind = 1 <;> cases x.nul <;> cases x.ref.toList.isEmpty <;> simp [h1]
 have e2 : (d.t.cols.any fun c => !scRef (g ++ [enD g d]) c) = d.t.cols.any (refBad g d.t) := by
  rw [Bool.eq_iff_iff, List.any_eq_true, List.any_eq_true]
  constructor
  · rintro ⟨c, hc, h⟩
    rw [ref_p hg hk hm hn hc, Bool.not_not] at h
    exact ⟨c, hc, h⟩
  · rintro ⟨c, hc, h⟩
    exact ⟨c, hc, by rw [ref_p hg hk hm hn hc, Bool.not_not]; exact h⟩
 rw [e1, e2]
theorem src_table {ok : Df → Bool} {g : List En} (hg : ∀ e ∈ g, GoodE e) {d : Df} (hm : MayD d) (ho : ok d = true) (hl : g.length < 20) (hn : findE g (nameD d) = none) (hk : d.k = 0) : wrongE ok ty g d = scTab ty (g ++ [enD g d]) d.t := by
 have hn' : findE g d.t.name = none := by unfold nameD at hn; rwa [if_pos hk] at hn
 unfold wrongE
 rw [if_neg (by simp [ho]), if_neg (by omega), if_neg (by simp [hn]), if_pos hk, tab_p hg hk hm hn']
theorem src_view {ok : Df → Bool} {g : List En} (hg : ∀ e ∈ g, GoodE e) {d : Df} (hm : MayD d) (ho : ok d = true) (hl : g.length < 20) (hn : findE g (nameD d) = none) (hk : d.k ≠ 0) :
 (wrongE ok ty g d = 94 ∧ scView ty g d.v = none) ∨ (wrongE ok ty g d = 0 ∧ scView ty g d.v = some (enD g d)) := by
 rw [view_p hg (may_vw hm hk).2 hk]
 unfold wrongE
 rw [if_neg (by simp [ho]), if_neg (by omega), if_neg (by simp [hn]), if_neg hk]
 cases viewBad ty g d.v
 · right; simp
 · left; simp
end Go.Proofs.YtamekagminbejaaGreatDoor
namespace Go.Proofs.YtamekagminbejaaGreatDoor
open Go Go.RowKit
section
variable {α : Type} {rd : α → List Value} {S : Nat}
def SlG (W : World) (A : Option Addr) (S : Nat) (rd : α → List Value) (xs : List α) : Prop :=
 xs = [] ∨ ∃ b off, A = some ⟨b, off, none⟩ ∧ b < W.heap.size ∧ ∀ i x, xs[i]? = some x → ∀ j u, (rd x)[j]? = some u → W.cell? ⟨b, off + i * S + j, none⟩ = some u
theorem SlG.after {w w' : World} {A : Option Addr} {xs : List α} (h : SlG w A S rd xs) (hb : Below w.heap.size w w') : SlG w' A S rd xs := by
 rcases h with h | ⟨b, off, hA, hlt, h⟩
 · exact .inl h
 · exact .inr ⟨b, off, hA, Nat.lt_of_lt_of_le hlt hb.size, fun i x hx j u hu => (hb.cell hlt).trans (h i x hx j u hu)⟩
theorem SlG.alloc {w : World} {A : Option Addr} {xs : List α} (h : SlG w A S rd xs) (o : Obj) : SlG (w.alloc o) A S rd xs := h.after (below_one w o)
theorem flat_at (hl : ∀ x, (rd x).length = S) : ∀ (xs : List α) (i j : Nat) (x : α), xs[i]? = some x → j < S → (xs.flatMap rd)[i * S + j]? = (rd x)[j]?
 | [], i, j, x, h, _ => by simp at h
 | y :: r, 0, j, x, h, hj => by
   simp at h; subst h
   rw [List.flatMap_cons, Nat.zero_mul, Nat.zero_add, List.getElem?_append_left (by rw [hl]; exact hj)]
 | y :: r, i + 1, j, x, h, hj => by
   rw [List.flatMap_cons, List.getElem?_append_right (by rw [hl, Nat.succ_mul]; omega), hl, show (i + 1) * S + j - S = i * S + j by rw [Nat.succ_mul]; omega]
   exact flat_at hl r i j x (by simpa using h) hj
theorem flat_len (hl : ∀ x, (rd x).length = S) : ∀ xs : List α, (xs.flatMap rd).length = xs.length * S
 | [] => by simp
 | x :: r => by rw [List.flatMap_cons, List.length_append, hl, flat_len hl r, List.length_cons, Nat.succ_mul]; omega
theorem SlG.flat {w : World} {xs : List α} {b off : Nat} (hl : ∀ x, (rd x).length = S) (hS : 0 < S) (h : ∀ i x, xs[i]? = some x → ∀ j u, (rd x)[j]? = some u → w.cell? ⟨b, off + i * S + j, none⟩ = some u) :
 ∀ j u, (xs.flatMap rd)[j]? = some u → w.cell? ⟨b, off + j, none⟩ = some u := by
 intro j u hj
 have hlt : j < xs.length * S := by
  have := (List.getElem?_eq_some_iff.1 hj).1
  rwa [flat_len hl] at this
 have hi : j / S < xs.length := (Nat.div_lt_iff_lt_mul hS).2 hlt
 have hx : xs[j / S]? = some xs[j / S] := List.getElem?_eq_getElem hi
 have e : j / S * S + j % S = j := by rw [Nat.mul_comm]; exact Nat.div_add_mod j S
 have h1 := flat_at hl xs (j / S) (j % S) _ hx (Nat.mod_lt _ hS)
 rw [e] at h1
 have h2 := h (j / S) _ hx (j % S) u (h1.symm.trans hj)
 rwa [Nat.add_assoc, e] at h2
theorem SlG.new {w : World} {cs : Array Value} {E : TypeId} (hl : ∀ x, (rd x).length = S) (xs : List α) (h : cs = (xs.flatMap rd).toArray) : SlG (w.alloc (.cells cs E)) (some ⟨w.heap.size, 0, none⟩) S rd xs := by
 subst h
 refine .inr ⟨w.heap.size, 0, rfl, by simp, fun i x hx j u hu => ?_⟩
 have e0 : (w.alloc (.cells (xs.flatMap rd).toArray E)).heap[w.heap.size]? = some (.cells (xs.flatMap rd).toArray E (0, 0)) := by
  show (w.heap.push _)[w.heap.size]? = _
  simp
 have hj : j < S := by have := (List.getElem?_eq_some_iff.1 hu).1; rwa [hl] at this
 simp only [World.cell?, e0, Option.isSome_none, Bool.false_eq_true, if_false, List.getElem?_toArray]
 rw [Nat.zero_add, flat_at hl xs i j x hx hj]
 exact hu
structure ElOk (P : Program) (T E : TypeId) (S bytes : Nat) (z : Value) (rd : α → List Value) : Prop where
 under : P.underlying T = some (.slice E)
 info : (P.info? E).map (fun i => (i.zero, i.size, i.bytes)) = some (some z, S, bytes)
 zs : z.cells.size = S
 pos : 0 < S
 len : ∀ x, (rd x).length = S
 one : ∀ x u, u ∈ rd x → u.oneCell' = true
def OwnG (w : World) (B : Nat) (E : TypeId) (S : Nat) (rd : α → List Value) (v : Value) (xs : List α) : Prop := w.ownsRow B E S v xs.length (xs.flatMap rd)
theorem OwnG.nil (w : World) (B : Nat) (E : TypeId) : OwnG w B E S rd (.slice none 0 0) [] := World.ownsRow_nil w B E S
theorem OwnG.made (w : World) (B : Nat) (E : TypeId) (cur : Array Value) (cap : Nat) (hB : B ≤ w.heap.size) (hm : cap ≤ maxLen) (hs : cur.size = cap * S) : OwnG (w.alloc (.cells cur E)) B E S rd (.slice (some ⟨w.heap.size, 0, none⟩) 0 cap) [] :=
 World.ownsRow_made w cur cap hB hm hs
theorem OwnG.lt {w : World} {B : Nat} {E : TypeId} {v : Value} {xs : List α} (h : OwnG w B E S rd v xs) : ∀ k, v.ownBlock = some k → B ≤ k ∧ k < w.heap.size := fun k hk => World.ownsRow.lt h k hk
theorem OwnG.same {w w' : World} {B : Nat} {E : TypeId} {v : Value} {xs : List α} (h : OwnG w B E S rd v xs) (hb : ∀ k, v.ownBlock = some k → w'.heap[k]? = w.heap[k]?) : OwnG w' B E S rd v xs := by
 obtain ⟨h1, h2⟩ := h
 refine ⟨h1, ?_⟩
 rcases h2 with h2 | ⟨g', cap, cur, hv, hB, hh, h3⟩
 · exact .inl h2
 · exact .inr ⟨g', cap, cur, hv, hB, (hb g' (by rw [hv]; rfl)).trans hh, h3⟩
theorem OwnG.after {w w' : World} {B : Nat} {E : TypeId} {v : Value} {xs : List α} (h : OwnG w B E S rd v xs) (hb : Below w.heap.size w w') : OwnG w' B E S rd v xs := h.same fun k hk => hb.block k (h.lt k hk).2
theorem OwnG.alloc {w : World} {B : Nat} {E : TypeId} {v : Value} {xs : List α} (h : OwnG w B E S rd v xs) (o : Obj) : OwnG (w.alloc o) B E S rd v xs := h.after (below_one w o)
theorem OwnG.mono {w : World} {B B' : Nat} {E : TypeId} {v : Value} {xs : List α} (h : OwnG w B E S rd v xs) (hB : B' ≤ B) : OwnG w B' E S rd v xs := by
 obtain ⟨h1, h2⟩ := h
 refine ⟨h1, ?_⟩
 rcases h2 with h2 | ⟨g', cap, cur, hv, hb, h3⟩
 · exact .inl h2
 · exact .inr ⟨g', cap, cur, hv, by omega, h3⟩
theorem OwnG.sl {w : World} {B : Nat} {E : TypeId} {v : Value} {xs : List α} (hl : ∀ x, (rd x).length = S) (h : OwnG w B E S rd v xs) : ∃ A c, v = .slice A xs.length c ∧ xs.length ≤ c ∧ c ≤ maxLen ∧ SlG w A S rd xs := by
 rcases h.2 with ⟨rfl, hn⟩ | ⟨g, cap, cur, rfl, hB, hh, hle, hm, _⟩
 · obtain rfl : xs = [] := List.eq_nil_of_length_eq_zero hn
   exact ⟨none, 0, rfl, Nat.le_refl _, Nat.zero_le _, .inl rfl⟩
 · refine ⟨some ⟨g, 0, none⟩, cap, rfl, hle, hm, .inr ⟨g, 0, rfl, (h.lt g rfl).2, fun i x hx j u hu => ?_⟩⟩
   have hj : j < S := by have := (List.getElem?_eq_some_iff.1 hu).1; rwa [hl] at this
   have := World.ownsRow.cells (g := g) h rfl (i * S + j) u ((flat_at hl xs i j x hx hj).trans hu)
   rwa [Go.WideShapes.add_plain, ← Nat.add_assoc] at this
theorem OwnG.isSlice {w : World} {B : Nat} {E : TypeId} {v : Value} {xs : List α} (h : OwnG w B E S rd v xs) : ∃ A c, v = .slice A xs.length c := by
 rcases h.2 with ⟨rfl, hn⟩ | ⟨g, cap, cur, rfl, _⟩
 · exact ⟨none, 0, by rw [hn]⟩
 · exact ⟨_, cap, rfl⟩
variable {P : Program} {T E : TypeId} {bytes : Nat} {z : Value}
theorem ElOk.parts (h : ElOk P T E S bytes z rd) : ∃ i : TypeInfo, P.info? E = some i ∧ i.zero = some z ∧ i.size = S ∧ i.bytes = bytes := by
 have hi := h.info
 cases e : P.info? E with
 | none => rw [e] at hi; cases hi
 | some i =>
   rw [e] at hi
   simp at hi
   exact ⟨i, rfl, hi.1, hi.2.1, hi.2.2⟩
theorem app_none (he : ElOk P T E S bytes z rd) (w : World) (v : Value) (B c : Nat) (ty : TypeId) (xs : List α) (h : OwnG w B E S rd v xs) : (Builtin.append_ #[T, T] ty #[v, .slice none 0 c]).run P w = .ok v w := by
 obtain ⟨i0, hi, hz0, hz1, hz2⟩ := he.parts
 rcases h.2 with ⟨rfl, _⟩ | ⟨g, cap, cur, rfl, _, _, hnc, _⟩
 · simp [Builtin.append_, run_underlying he.under, sizeOf, typeInfo, hi, Builtin.lenOf, Builtin.firstCells]
 · simp [Builtin.append_, run_underlying he.under, sizeOf, typeInfo, hi, Builtin.lenOf, Builtin.firstCells, hnc, storeCells]
theorem wpList_appG {ops : Array Oper} {rest : List Oper} {o : Oper} {a : Act} {Q : Exit → Act → World → Prop} {w : World} (he : ElOk P T E S bytes z rd) (hgd : o.guard = none) (s x : Operand) (ho : o.op = .call { callee := .builtin .append, args := #[s, x], argTypes := #[T, T] })
 (B : Nat) (v : Value) (xs ys : List α) (A : Option Addr) (n c : Nat) (hs : a.eval s = v) (hb : OwnG w B E S rd v xs) (hx : a.eval x = .slice A n c) (hn : ys.length = n) (hsl : SlG w A S rd ys)
 (hmax : xs.length + ys.length ≤ maxLen) (hbytes : (xs.length + ys.length) * bytes ≤ 140737488355328) (hB : B ≤ w.heap.size)
 (h : ∀ v' w', OwnG w' B E S rd v' (xs ++ ys) → w.grownBy w' v.ownBlock → wpList P ops Q rest (a.put o.dst v') w') : wpList P ops Q (o :: rest) a w := by
 obtain ⟨i0, hi, hz0, hz1, hz2⟩ := he.parts
 subst hn
 have some_case : ∀ (ad : Addr), A = some ad → (∀ j u, (ys.flatMap rd)[j]? = some u → w.cell? (ad.add j) = some u) → wpList P ops Q (o :: rest) a w := by
  intro ad hA hcells
  subst hA
  refine wpList_append_own_at _ hgd s x T ho B E i0 z S bytes he.under hi hz0 hz1 hz2 he.zs he.pos v xs.length (xs.flatMap rd) hs hb ad ys.length c (ys.flatMap rd) hx (flat_len he.len ys) hcells (fun u hu => by obtain ⟨q, _, hq⟩ := List.mem_flatMap.1 hu; exact he.one q u hq) hmax hbytes hB ?_
  intro v' w' hown' hgrow _ _
  refine h v' w' ?_ hgrow
  unfold OwnG
  rw [List.flatMap_append, List.length_append]
  exact hown'
 rcases hsl with rfl | ⟨b, off, hA, hlt, hc⟩
 · cases A with
   | some ad => exact some_case ad rfl (fun j u hj => by simp at hj)
   | none =>
     refine wpList_plain hgd fun K hK => ?_
     have hr := app_none he w v B c o.type xs hb
     unfold Oper.wp execOp
     have hx' : a.eval x = .slice none 0 c := hx
     simp only [ho, resolve, invoke, builtin, Sem.run_bind, Sem.run_pure, Result.andThen_ok, List.map_toArray, List.map_cons, List.map_nil, hs, hx', hr]
     exact hK _ _ (h v w (by rw [List.append_nil]; exact hb) (World.grownBy.refl w _))
 · refine some_case ⟨b, off, none⟩ hA fun j u hj => ?_
   rw [Go.WideShapes.add_plain]
   exact SlG.flat he.len he.pos hc j u hj
theorem step_appG {ops : Array Oper} {o : Oper} {a : Act} {w : World} {K : Act → World → Prop} {Q : Exit → Act → World → Prop} {F : Prop} (he : ElOk P T E S bytes z rd) (hgd : o.guard = none) (s y : Operand) (ho : o.op = .call { callee := .builtin .append, args := #[s, y], argTypes := #[T, T] })
 (B : Nat) (v : Value) (xs ys : List α) (hs : a.eval s = v) (hb : OwnG w B E S rd v xs) (A : Option Addr) (n c : Nat) (hy : a.eval y = .slice A n c) (hn : ys.length = n) (hn0 : ys ≠ []) (hsl : SlG w A S rd ys)
 (hmax : xs.length + ys.length ≤ maxLen) (hbytes : (xs.length + ys.length) * bytes ≤ 140737488355328) (hB : B ≤ w.heap.size)
 (h : ∀ g' cap w', OwnG w' B E S rd (.slice (some ⟨g', 0, none⟩) (xs.length + ys.length) cap) (xs ++ ys) → w.grownBy w' v.ownBlock → K (a.put o.dst (.slice (some ⟨g', 0, none⟩) (xs.length + ys.length) cap)) w') :
 if Region.wanted o (yielded ops a.tmps) = true then Oper.wp P o a w K Q else F := by
 obtain ⟨i0, hi, hz0, hz1, hz2⟩ := he.parts
 subst hn
 rcases hsl with h0 | ⟨b, off, rfl, hlt, hc⟩
 · exact absurd h0 hn0
 refine step_append_lies w hgd s y T ho B E i0 z S bytes he.under hi hz0 hz1 hz2 he.zs he.pos v xs.length (xs.flatMap rd) hs hb ⟨b, off, none⟩ ys.length c (ys.flatMap rd) hy (flat_len he.len ys) (fun j u hj => by rw [Go.WideShapes.add_plain]; exact SlG.flat he.len he.pos hc j u hj) (fun u hu => by obtain ⟨q, _, hq⟩ := List.mem_flatMap.1 hu; exact he.one q u hq) (List.length_pos_iff.2 hn0) hmax hbytes hB _ rfl ?_
 intro g' cap w' hown' hgrow _ _
 refine h g' cap w' ?_ hgrow
 unfold OwnG
 rw [List.flatMap_append, List.length_append]
 exact hown'
end
end Go.Proofs.YtamekagminbejaaGreatDoor
namespace Go.Proofs.YtamekagminbejaaGreatDoor
open Go Go.RowKit
set_option maxRecDepth 100000
structure Hd where
 A : Option Addr
 n : Nat
 c : Nat
 xs : List Val
def rdI (x : Int) : List Value := [.int .i64 x]
def rdB (b : Bool) : List Value := [.bool b]
def rdS (l : List UInt8) : List Value := [.string ⟨l.toArray⟩]
theorem iOk : ElOk Tryz.prog 33 3 1 8 (.int .i64 0) rdI where
 under := Tryz.underlying33
 info := by kernel_rfl
 zs := rfl
 pos := by decide
 len := fun _ => rfl
 one := fun x u hu => by
  simp [rdI] at hu
  rcases hu with rfl; rfl
theorem bOk : ElOk Tryz.prog 42 4 1 1 (.bool false) rdB where
 under := Tryz.underlying42
 info := by kernel_rfl
 zs := rfl
 pos := by decide
 len := fun _ => rfl
 one := fun x u hu => by
  simp [rdB] at hu
  rcases hu with rfl; rfl
theorem SlG.at1 {α : Type} {rd : α → List Value} {w : World} {A : Option Addr} {xs : List α} (h : SlG w A 1 rd xs) {k : Nat} (hk : k < xs.length) :
 ∃ b off x, A = some ⟨b, off, none⟩ ∧ b < w.heap.size ∧ xs[k]? = some x ∧ ∀ u, (rd x)[0]? = some u → w.cell? ⟨b, off + k, none⟩ = some u := by
 rcases h with rfl | ⟨b, off, hA, hlt, h⟩
 · simp at hk
 · refine ⟨b, off, xs[k], hA, hlt, List.getElem?_eq_getElem hk, fun u hu => ?_⟩
   have := h k xs[k] (List.getElem?_eq_getElem hk) 0 u hu
   rwa [Nat.mul_one, Nat.add_zero] at this
section
variable {α : Type} {rd : α → List Value} {S N : Nat}
theorem make_run {P : Program} {T E : TypeId} {bytes : Nat} {z : Value} (he : ElOk P T E S bytes z rd) (m : Nat) (hb : bytes * m ≤ 281474976710656) (hm : m ≤ maxLen) :
 ∃ cs : Array Value, cs.size = m * S ∧ ∀ w : World, (Instr.makeSlice T (.int .i64 (m : Int)) (.int .i64 (m : Int))).run P w = .ok (.slice (some ⟨w.heap.size, 0, none⟩) m m) (w.alloc (.cells cs E)) := by
 obtain ⟨i0, hi, hz0, hz1, hz2⟩ := he.parts
 refine ⟨madeCells z.cells (m * S), size_madeCells _ _, fun w => ?_⟩
 have h63 : (m : Int) ≤ 9223372036854775807 := by
  have h := hm
  simp [maxLen] at h
  omega
 have hb' : (i0.bytes : Int) * (m : Int) ≤ 281474976710656 := by
  rw [hz2]
  have h : ((bytes * m : Nat) : Int) ≤ 281474976710656 := by omega
  rwa [Int.natCast_mul] at h
 have hr := run_make (P := P) w T E i0 z he.under hi hz0 .i64 .i64 m m (by omega) (Int.le_refl _) hb' h63
 simp only [Int.toNat_natCast, hz1] at hr
 exact hr
theorem SlG.newAt {w : World} {cs : Array Value} {E : TypeId} {b : Nat} (hb : w.heap.size = b) (hl : ∀ x, (rd x).length = S) (xs : List α) (h : cs = (xs.flatMap rd).toArray) : SlG (w.alloc (.cells cs E)) (some ⟨b, 0, none⟩) S rd xs := by
 subst hb
 exact SlG.new hl xs h
end
theorem below_via {w a b : World} (h : Below w.heap.size w a) (g : Below a.heap.size a b) : Below w.heap.size w b := h.trans (g.mono h.size)
theorem below_al {w a : World} (h : Below w.heap.size w a) (o : Obj) : Below w.heap.size w (a.alloc o) := h.alloc h.size o
end Go.Proofs.YtamekagminbejaaGreatDoor
namespace Go.Proofs.YtamekagminbejaaGreatDoor
open Go Go.RowKit
set_option maxRecDepth 100000
structure Sx (α : Type) where
 A : Option Addr
 n : Nat
 c : Nat
 xs : List α
abbrev Sx.v {α : Type} (h : Sx α) : Value := .slice h.A h.n h.c
structure Sx.In {α : Type} (w : World) (S : Nat) (rd : α → List Value) (h : Sx α) : Prop where
 len : h.xs.length = h.n
 max : h.n ≤ maxLen
 sl : SlG w h.A S rd h.xs
theorem Sx.In.after {α : Type} {w w' : World} {S : Nat} {rd : α → List Value} {h : Sx α} (hi : h.In w S rd) (hb : Below w.heap.size w w') : h.In w' S rd := ⟨hi.len, hi.max, hi.sl.after hb⟩
theorem SlG.atS {α : Type} {rd : α → List Value} {S : Nat} {w : World} {A : Option Addr} {xs : List α} (h : SlG w A S rd xs) {k : Nat} (hk : k < xs.length) :
 ∃ b off x, A = some ⟨b, off, none⟩ ∧ b < w.heap.size ∧ xs[k]? = some x ∧ ∀ j u, (rd x)[j]? = some u → w.cell? ⟨b, off + k * S + j, none⟩ = some u := by
 rcases h with rfl | ⟨b, off, hA, hlt, h⟩
 · simp at hk
 · have hx := List.getElem?_eq_getElem hk
   exact ⟨b, off, xs[k], hA, hlt, hx, h k xs[k] hx⟩
def rdN (x : Nd) : List Value := [.int .i64 x.op, .int .i64 x.n, .int .i64 x.v.k, .int .i64 x.v.n, .string x.v.s]
abbrev Nd.w (x : Nd) : Value := .agg #[.int .i64 x.op, .int .i64 x.n, .int .i64 x.v.k, .int .i64 x.v.n, .string x.v.s]
def rdCl (x : Cl) : List Value := [.string x.name, .int .i64 x.kind, .bool x.nul, .bool x.uni, .string x.ref, .int .i64 x.act]
abbrev Cl.w (x : Cl) : Value := .agg #[.string x.name, .int .i64 x.kind, .bool x.nul, .bool x.uni, .string x.ref, .int .i64 x.act]
def rdAg (x : Ag) : List Value := [.int .i64 x.fn, .int .i64 x.col]
abbrev Ag.w (x : Ag) : Value := .agg #[.int .i64 x.fn, .int .i64 x.col]
def rdX (x : Sx Nd) : List Value := [.slice x.A x.n x.c]
structure Tm where
 name : ByteArray
 cols : Sx Cl
 chks : Sx (Sx Nd)
structure Vm where
 name : ByteArray
 frm : ByteArray
 wth : ByteArray
 on0 : Int
 on1 : Int
 whr : Sx Nd
 pick : Sx Int
 grp : Bool
 aggs : Sx Ag
structure Dm where
 k : Int
 t : Tm
 v : Vm
abbrev Tm.w (x : Tm) : Value := .agg #[.string x.name, .slice x.cols.A x.cols.n x.cols.c, .slice x.chks.A x.chks.n x.chks.c]
abbrev Vm.w (x : Vm) : Value := .agg #[.string x.name, .string x.frm, .string x.wth, .int .i64 x.on0, .int .i64 x.on1, .slice x.whr.A x.whr.n x.whr.c, .slice x.pick.A x.pick.n x.pick.c, .bool x.grp, .slice x.aggs.A x.aggs.n x.aggs.c]
def rdD (x : Dm) : List Value := [.int .i64 x.k, .string x.t.name, .slice x.t.cols.A x.t.cols.n x.t.cols.c, .slice x.t.chks.A x.t.chks.n x.t.chks.c, .string x.v.name, .string x.v.frm, .string x.v.wth, .int .i64 x.v.on0, .int .i64 x.v.on1, .slice x.v.whr.A x.v.whr.n x.v.whr.c, .slice x.v.pick.A x.v.pick.n x.v.pick.c, .bool x.v.grp, .slice x.v.aggs.A x.v.aggs.n x.v.aggs.c]
abbrev Dm.w (x : Dm) : Value := .agg #[.int .i64 x.k, .string x.t.name, .slice x.t.cols.A x.t.cols.n x.t.cols.c, .slice x.t.chks.A x.t.chks.n x.t.chks.c, .string x.v.name, .string x.v.frm, .string x.v.wth, .int .i64 x.v.on0, .int .i64 x.v.on1, .slice x.v.whr.A x.v.whr.n x.v.whr.c, .slice x.v.pick.A x.v.pick.n x.v.pick.c, .bool x.v.grp, .slice x.v.aggs.A x.v.aggs.n x.v.aggs.c]
def Tm.tb (x : Tm) : Tb := ⟨x.name, x.cols.xs, x.chks.xs.map (·.xs)⟩
def Vm.vw (x : Vm) : Vw := ⟨x.name, x.frm, x.wth, x.on0, x.on1, x.whr.xs, x.pick.xs, x.grp, x.aggs.xs⟩
def Dm.df (x : Dm) : Df := ⟨x.k, x.t.tb, x.v.vw⟩
structure Tm.In (w : World) (x : Tm) : Prop where
 cols : x.cols.In w 6 rdCl
 chks : x.chks.In w 1 rdX
 each : ∀ e ∈ x.chks.xs, e.In w 5 rdN
structure Vm.In (w : World) (x : Vm) : Prop where
 whr : x.whr.In w 5 rdN
 pick : x.pick.In w 1 rdI
 aggs : x.aggs.In w 2 rdAg
structure Dm.In (w : World) (x : Dm) : Prop where
 t : x.t.In w
 v : x.v.In w
theorem Tm.In.after {w w' : World} {x : Tm} (h : x.In w) (hb : Below w.heap.size w w') : x.In w' := ⟨h.cols.after hb, h.chks.after hb, fun e he => (h.each e he).after hb⟩
theorem Vm.In.after {w w' : World} {x : Vm} (h : x.In w) (hb : Below w.heap.size w w') : x.In w' := ⟨h.whr.after hb, h.pick.after hb, h.aggs.after hb⟩
theorem Dm.In.after {w w' : World} {x : Dm} (h : x.In w) (hb : Below w.heap.size w w') : x.In w' := ⟨h.t.after hb, h.v.after hb⟩
instance : DecidableEq ByteArray := fun a b => decidable_of_iff (a.toList = b.toList) ⟨toList_inj, fun h => by rw [h]⟩
instance : DecidableEq Nd := fun _ _ => decidable_of_iff _ Nd.eq_iff
instance : DecidableEq Cl := fun a b => decidable_of_iff (a.name = b.name ∧ a.kind = b.kind ∧ a.nul = b.nul ∧ a.uni = b.uni ∧ a.ref = b.ref ∧ a.act = b.act) (by cases a; cases b; simp)
instance : DecidableEq Ag := fun a b => decidable_of_iff (a.fn = b.fn ∧ a.col = b.col) (by cases a; cases b; simp)
instance : DecidableEq Tb := fun a b => decidable_of_iff (a.name = b.name ∧ a.cols = b.cols ∧ a.checks = b.checks) (by cases a; cases b; simp)
instance : DecidableEq Vw := fun a b => decidable_of_iff (a.name = b.name ∧ a.frm = b.frm ∧ a.wth = b.wth ∧ a.on0 = b.on0 ∧ a.on1 = b.on1 ∧ a.whr = b.whr ∧ a.pick = b.pick ∧ a.grp = b.grp ∧ a.aggs = b.aggs) (by cases a; cases b; simp)
instance : DecidableEq Df := fun a b => decidable_of_iff (a.k = b.k ∧ a.t = b.t ∧ a.v = b.v) (by cases a; cases b; simp)
def Nd.eqB (a b : Nd) : Bool := decide (a = b)
def Cl.eqB (a b : Cl) : Bool := decide (a = b)
def Ag.eqB (a b : Ag) : Bool := decide (a = b)
theorem run_neN (w : World) (k n vk vn k' n' vk' vn' : Int) (vs vs' : ByteArray) : (binOp .neq 83 (.agg #[.int .i64 k, .int .i64 n, .int .i64 vk, .int .i64 vn, .string vs]) (.agg #[.int .i64 k', .int .i64 n', .int .i64 vk', .int .i64 vn', .string vs'])).run Tryz.prog w = .ok (.bool !(Nd.eqB ⟨k, n, ⟨vk, vn, vs⟩⟩ ⟨k', n', ⟨vk', vn', vs'⟩⟩)) w := by
 have e : (Op.equalIn 10000 83 (.agg #[.int .i64 k, .int .i64 n, .int .i64 vk, .int .i64 vn, .string vs]) (.agg #[.int .i64 k', .int .i64 n', .int .i64 vk', .int .i64 vn', .string vs'])).run Tryz.prog w = .ok (decide ((⟨k, n, ⟨vk, vn, vs⟩⟩ : Nd) = ⟨k', n', ⟨vk', vn', vs'⟩⟩)) w := by
  simp [go_sem, Tryz.underlying83, Tryz.underlying81, Tryz.underlying3, Tryz.underlying9]
  have hs : (vs.toList = vs'.toList) ↔ vs = vs' := ⟨toList_inj, fun h => by rw [h]⟩
  by_cases h1 : k = k' <;> by_cases h2 : n = n' <;> by_cases h3 : vk = vk' <;> by_cases h4 : vn = vn' <;> by_cases h5 : vs = vs' <;> simp [hs, h1, h2, h3, h4, h5]
 rw [run_neq_struct, e]; rfl
theorem run_neC (w : World) (a b k k' ac ac' : _) (nu un nu' un' : Bool) (r r' : ByteArray) : (binOp .neq 41 (.agg #[.string a, .int .i64 k, .bool nu, .bool un, .string r, .int .i64 ac]) (.agg #[.string b, .int .i64 k', .bool nu', .bool un', .string r', .int .i64 ac'])).run Tryz.prog w = .ok (.bool !(Cl.eqB ⟨a, k, nu, un, r, ac⟩ ⟨b, k', nu', un', r', ac'⟩)) w := by
 have e : (Op.equalIn 10000 41 (.agg #[.string a, .int .i64 k, .bool nu, .bool un, .string r, .int .i64 ac]) (.agg #[.string b, .int .i64 k', .bool nu', .bool un', .string r', .int .i64 ac'])).run Tryz.prog w = .ok (decide ((⟨a, k, nu, un, r, ac⟩ : Cl) = ⟨b, k', nu', un', r', ac'⟩)) w := by
  simp [go_sem, Tryz.underlying41, Tryz.underlying3, Tryz.underlying4, Tryz.underlying9]
  have hs : ∀ x y : ByteArray, (x.toList = y.toList) ↔ x = y := fun x y => ⟨toList_inj, fun h => by rw [h]⟩
  by_cases h1 : a = b <;> by_cases h2 : k = k' <;> by_cases h3 : nu = nu' <;> by_cases h4 : un = un' <;> by_cases h5 : r = r' <;> by_cases h6 : ac = ac' <;> simp [hs, h1, h2, h3, h4, h5, h6]
 rw [run_neq_struct, e]; rfl
theorem run_neA (w : World) (f c f' c' : Int) : (binOp .neq 73 (.agg #[.int .i64 f, .int .i64 c]) (.agg #[.int .i64 f', .int .i64 c'])).run Tryz.prog w = .ok (.bool !(Ag.eqB ⟨f, c⟩ ⟨f', c'⟩)) w := by
 have e : (Op.equalIn 10000 73 (.agg #[.int .i64 f, .int .i64 c]) (.agg #[.int .i64 f', .int .i64 c'])).run Tryz.prog w = .ok (decide ((⟨f, c⟩ : Ag) = ⟨f', c'⟩)) w := by
  simp [go_sem, Tryz.underlying73, Tryz.underlying3]
  by_cases h1 : f = f' <;> by_cases h2 : c = c' <;> simp [h1, h2]
 rw [run_neq_struct, e]; rfl
section
variable {α : Type} {rd : α → List Value} {S : Nat} {P : Program} {T E : TypeId} {bytes : Nat} {z : Value}
end
end Go.Proofs.YtamekagminbejaaGreatDoor
