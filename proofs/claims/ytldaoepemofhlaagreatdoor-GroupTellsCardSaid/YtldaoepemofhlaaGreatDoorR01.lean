/-
  Part 1 of 6 of what the proof leans on: each part below says what it proves, and of what; no condition besides.
-/
import Derived.Orders
import Derived.Below
import Derived.KernelRfl
import Derived.Test.YtldaoepemofhlaaGreatDoorProg
import Derived.WalkKit
import Derived.WalkSpells
import Derived.WalkLawsBesides
import Derived.Deep.QuietTactic
import Derived.Deep.RegionWith
import Derived.Deep.DrawnRows
import Derived.BigQuiet
import Derived.Lib.Hide
import Derived.Laws.StructEq
import Derived.Maps.AppendAt
import Derived.Deep.AppendLies
import Derived.OwnWalk
import Derived.Lib.BufSteps
import Derived.Shelf.Strings.Builder1
import Derived.Shelf.Strings.Builder2
import Derived.Shelf.Strings.OnBuilder
import Derived.Shelf.Small.Bits
import Derived.Shelf.Small.Strs
import Derived.Shelf.Small.Wraps
import Derived.Shelf.Strings.BuilderF
import Derived.Shelf.Strings.BuilderK
import Derived.Shelf.Utf8.RuneCount
import Derived.Shelf.Strings.Builder2Cap
import Derived.Shelf.Strconv.Itoa0
import Derived.Shelf.Strconv.Itoa1
import Derived.Shelf.LaysM
import Derived.Shelf.Strconv.Itoa2
import Derived.Shelf.Strconv.Itoa3
import Derived.Shelf.Strings.Search1
import Derived.Shelf.Strings.Search2
import Derived.Shelf.Strings.Search3
import Derived.Shelf.Strings.Count
import Derived.Shelf.Strings.Shaped
import Derived.Shelf.Strings.Split
import Derived.Shelf.Strings.Replace
import Derived.Shelf.Strings.SplitShaped
import Derived.Shelf.Strings.RuneCount
import Derived.Shelf.Unicode.DecodeSlow
import Derived.Shelf.Unicode.DecodeAny
import Derived.Shelf.Strings.BuilderCap
import Derived.Ground.Names2Prog
import Derived.Shelf.Slices.SearchI
import Derived.Lib.Replace
import Derived.Lib.ReplaceLaws
set_option linter.unusedVariables false
set_option linter.unusedSimpArgs false
namespace Go.Proofs.YtldaoepemofhlaaGreatDoor
open Go Go.RowKit
namespace Reg
def direct (o : Oper) : List Nat := (o.after.toList.filter fun e => Region.binds .any e).map (·.on)
def slot (a : Act) (t : Tmp) : Value := a.tmps.getD t undef
def dsts (ops : Array Oper) : List Tmp := ops.toList.filterMap (·.dst)
def At (see : Nat → List Tmp) (fact : Nat → List Value → World → Prop) (i : Nat) (a : Act) (w : World) : Prop := fact i ((see i).map (slot a)) w
def okAt (ops : Array Oper) (see deps olds : Nat → List Nat) (i : Nat) (o : Oper) : Bool :=
 ((olds i).all fun t => (List.range ops.size).all fun k => match ops[k]? with
   | some ok => ok.dst != some t || (direct ok).contains i
   | none => true) &&
 ((direct o).all fun j => decide (j < i)) &&
 ((deps i).all fun j => (direct o).any fun k => j == k || (deps k).contains j) &&
 ((List.range ops.size).all fun k => match (ops[k]?).bind (·.dst) with
   | some d => !(see i).contains d || k == i || (deps i).contains k
   | none => true)
def ok (ops : Array Oper) (see deps olds : Nat → List Nat) : Bool :=
 (List.range ops.size).all fun i => match ops[i]? with
   | some o => okAt ops see deps olds i o
   | none => true
section
variable {P : Program} {ops : Array Oper} {Q : Exit → Act → World → Prop} {see deps olds : Nat → List Nat} {fact : Nat → List Value → World → Prop}
theorem ok_spec (h : ok ops see deps olds = true) {i : Nat} {o : Oper} (hi : ops[i]? = some o) : okAt ops see deps olds i o = true := by
 have hlt : i < ops.size := (Array.getElem?_eq_some_iff.1 hi).1
 have := List.all_eq_true.1 h i (List.mem_range.2 hlt)
 simpa [hi] using this
structure Inv (ops : Array Oper) (see : Nat → List Nat) (fact : Nat → List Value → World → Prop) (B : Nat) (a0 : Act) (w0 : World) (listed : Array Bool) (a : Act) (w : World) : Prop where
 defers : a.defers = a0.defers
 size : a.tmps.size = a0.tmps.size
 old : ∀ t, (∀ k o, ops[k]? = some o → o.dst = some t → listed.getD k true = false) → slot a t = slot a0 t
 below : Below B w0 w
 down : ∀ i o, ops[i]? = some o → listed.getD i true = true → ∀ j ∈ direct o, listed.getD j true = true
 facts : ∀ i, i < ops.size → listed.getD i true = true → At see fact i a w
def StepOk (P : Program) (ops : Array Oper) (Q : Exit → Act → World → Prop) (see deps olds : Nat → List Nat) (fact : Nat → List Value → World → Prop) (B : Nat) (a0 : Act) (w0 : World) (i : Nat) (o : Oper) : Prop :=
 ∀ (a : Act) (w : World), a.tmps.size = a0.tmps.size → (∀ t, t ∉ dsts ops → slot a t = slot a0 t) → (∀ t ∈ olds i, slot a t = slot a0 t) → Below B w0 w → (∀ j ∈ deps i, At see fact j a w) →
  wpOp P ops Q i (fun a' w' => ∃ v, a' = a.put o.dst v ∧ At see fact i a' w' ∧ Below B w w' ∧ ∀ j, j ≠ i → j < ops.size → At see fact j a w → At see fact j a w') a w
theorem slot_put_ne (a : Act) (dst : Option Tmp) (v : Value) (t : Tmp) (h : dst ≠ some t) : slot (a.put dst v) t = slot a t := by
 cases dst with
 | none => rfl
 | some d =>
   have hne : d ≠ t := fun e => h (by rw [e])
   simp [slot, Act.put, Array.getElem?_setIfInBounds_ne hne]
theorem slot_put_same (a : Act) (d : Tmp) (v : Value) (h : d < a.tmps.size) : slot (a.put (some d) v) d = v := by
 simp [slot, Act.put, h]
theorem size_put (a : Act) (dst : Option Tmp) (v : Value) : (a.put dst v).tmps.size = a.tmps.size := by
 cases dst <;> simp [Act.put]
theorem defers_put (a : Act) (dst : Option Tmp) (v : Value) : (a.put dst v).defers = a.defers := by
 cases dst <;> rfl
theorem at_put {i : Nat} {a : Act} {w : World} {dst : Option Tmp} {v : Value} (h : ∀ d, dst = some d → d ∉ see i) (hf : At see fact i a w) : At see fact i (a.put dst v) w := by
 unfold At at *
 have : (see i).map (slot (a.put dst v)) = (see i).map (slot a) := List.map_congr_left fun t ht => slot_put_ne a dst v t (fun e => h t e ht)
 rw [this]; exact hf
theorem listed_lt {listed : Array Bool} {j : Nat} (h : listed.getD j true = false) : j < listed.size := by
 rcases Nat.lt_or_ge j listed.size with h' | h'
 · exact h'
 · simp [Array.getElem?_eq_none h'] at h
theorem getD_set {listed : Array Bool} {i j : Nat} (h : (listed.setIfInBounds i true).getD j true = true) : j = i ∨ listed.getD j true = true := by
 by_cases e : j = i
 · exact .inl e
 · right; rw [getD_set_ne true (fun e' => e e'.symm)] at h; exact h
theorem no_writer {t : Tmp} (h : t ∉ dsts ops) {k : Nat} {o : Oper} (hk : ops[k]? = some o) : o.dst ≠ some t :=
 fun hd => h (List.mem_filterMap.2 ⟨o, by have := Array.mem_of_getElem? hk; simpa using this, hd⟩)
theorem Inv.rest {B : Nat} {a0 : Act} {w0 : World} {listed : Array Bool} {a : Act} {w : World} (h : Inv ops see fact B a0 w0 listed a w) (t : Tmp) (ht : t ∉ dsts ops) : slot a t = slot a0 t :=
 h.old t fun _ _ hk hd => absurd hd (no_writer ht hk)
theorem deps_listed (hok : ok ops see deps olds = true) {listed : Array Bool} (down : ∀ i o, ops[i]? = some o → listed.getD i true = true → ∀ j ∈ direct o, listed.getD j true = true) :
 ∀ (n i : Nat) (o : Oper), i ≤ n → ops[i]? = some o → (∀ j ∈ direct o, listed.getD j true = true) → ∀ j ∈ deps i, listed.getD j true = true := by
 intro n
 induction n with
 | zero =>
   intro i o hi ho hd j hj
   have h := ok_spec hok ho
   simp only [okAt, Bool.and_eq_true, List.all_eq_true, List.any_eq_true, decide_eq_true_eq] at h
   obtain ⟨k, hk, _⟩ := h.1.2 j hj
   have := h.1.1.2 k hk
   omega
 | succ n ih =>
   intro i o hi ho hd j hj
   have h := ok_spec hok ho
   simp only [okAt, Bool.and_eq_true, List.all_eq_true, List.any_eq_true, decide_eq_true_eq] at h
   obtain ⟨k, hk, hjk⟩ := h.1.2 j hj
   have hki := h.1.1.2 k hk
   rcases Bool.or_eq_true _ _ ▸ hjk with e | e
   · have : j = k := by simpa using e
     subst this; exact hd j hk
   · have hko : k < ops.size := by have := (Array.getElem?_eq_some_iff.1 ho).1; omega
     exact ih k ops[k] (by omega) (Array.getElem?_eq_getElem hko) (down k ops[k] (Array.getElem?_eq_getElem hko) (hd k hk)) j (by simpa using e)
theorem wpAny_inv (hok : ok ops see deps olds = true) {B : Nat} {a0 : Act} {w0 : World}
 (hstep : ∀ i o, ops[i]? = some o → StepOk P ops Q see deps olds fact B a0 w0 i o)
 (hend : ∀ a w, a.defers = a0.defers → a.tmps.size = a0.tmps.size → (∀ t, t ∉ dsts ops → slot a t = slot a0 t) → Below B w0 w → (∀ i, i < ops.size → At see fact i a w) → Q .normal a w) :
 ∀ (fuel : Nat) (listed : Array Bool) (a : Act) (w : World), listed.size = ops.size → (listed.toList.countP fun b => !b) ≤ fuel → Inv ops see fact B a0 w0 listed a w → wpAny P .any ops Q fuel listed a w := by
 have final : ∀ (listed : Array Bool) (a : Act) (w : World), listed.size = ops.size → Inv ops see fact B a0 w0 listed a w → Region.ready .any ops listed = [] → Q .normal a w := by
  intro listed a w hsz hI hr
  have all : ∀ (n i : Nat), i < n → i < ops.size → listed.getD i true = true := by
   intro n
   induction n with
   | zero => intro i hi; omega
   | succ n ih =>
     intro i hi ho
     cases hl : listed.getD i true with
     | true => rfl
     | false =>
       have hmem : i ∈ Region.ready .any ops listed := by
        refine mem_ready.2 ⟨hl, ops[i], Array.getElem?_eq_getElem ho, fun e he hb => ?_⟩
        have hdir : e.on ∈ direct ops[i] := List.mem_map.2 ⟨e, List.mem_filter.2 ⟨by simpa using he, hb⟩, rfl⟩
        have h := ok_spec hok (Array.getElem?_eq_getElem ho)
        simp only [okAt, Bool.and_eq_true, List.all_eq_true, decide_eq_true_eq] at h
        have hlt := h.1.1.2 _ hdir
        have := ih e.on (by omega) (by omega)
        have hs : e.on < listed.size := by omega
        simp [hs] at this ⊢
        exact this
       rw [hr] at hmem; cases hmem
  exact hend a w hI.defers hI.size hI.rest hI.below fun i hi => hI.facts i hi (all (i + 1) i (by omega) hi)
 intro fuel
 induction fuel with
 | zero =>
   intro listed a w hsz hc hI
   have hnil : Region.ready .any ops listed = [] := by
    rcases hr : Region.ready .any ops listed with _ | ⟨x, xs⟩
    · rfl
    · exfalso
      have hx : x ∈ Region.ready .any ops listed := by rw [hr]; simp
      have h0 := (mem_ready.1 hx).1
      have hlt := listed_lt h0
      have : false ∈ listed.toList := by
       have : listed[x] = false := by simpa [hlt] using h0
       exact this ▸ (by simp : listed[x] ∈ listed.toList)
      have hp : 0 < listed.toList.countP fun b => !b := List.countP_pos_iff.2 ⟨false, this, rfl⟩
      omega
   exact ⟨hnil, final listed a w hsz hI hnil⟩
 | succ fuel ih =>
   intro listed a w hsz hc hI
   refine ⟨final listed a w hsz hI, fun i hi => ?_⟩
   obtain ⟨h0, o, ho, hall⟩ := mem_ready.1 hi
   have hilt : i < ops.size := (Array.getElem?_eq_some_iff.1 ho).1
   have hdir : ∀ j ∈ direct o, listed.getD j true = true := by
    intro j hj
    obtain ⟨e, he, rfl⟩ := List.mem_map.1 hj
    obtain ⟨he1, he2⟩ := List.mem_filter.1 he
    have := hall e (by simpa using he1) he2
    rcases Nat.lt_or_ge e.on listed.size with h' | h'
    · simp [h'] at this ⊢; exact this
    · simp [Array.getElem?_eq_none h'] at this
   have hdeps := deps_listed hok hI.down i i o (Nat.le_refl _) ho hdir
   have hdepslt : ∀ j ∈ deps i, j < ops.size := by
    intro j hj
    -- every dep is before i
    have key : ∀ (n i : Nat) (o : Oper), i ≤ n → ops[i]? = some o → ∀ j ∈ deps i, j < i := by
     intro n
     induction n with
     | zero =>
       intro i o hi ho j hj
       have h := ok_spec hok ho
       simp only [okAt, Bool.and_eq_true, List.all_eq_true, List.any_eq_true, decide_eq_true_eq] at h
       obtain ⟨k, hk, _⟩ := h.1.2 j hj
       have := h.1.1.2 k hk
       omega
     | succ n ihn =>
       intro i o hi ho j hj
       have h := ok_spec hok ho
       simp only [okAt, Bool.and_eq_true, List.all_eq_true, List.any_eq_true, decide_eq_true_eq] at h
       obtain ⟨k, hk, hjk⟩ := h.1.2 j hj
       have hki := h.1.1.2 k hk
       rcases Bool.or_eq_true _ _ ▸ hjk with e | e
       · have : j = k := by simpa using e
         omega
       · have hko : k < ops.size := by have := (Array.getElem?_eq_some_iff.1 ho).1; omega
         have := ihn k ops[k] (by omega) (Array.getElem?_eq_getElem hko) j (by simpa using e)
         omega
    have := key i i o (Nat.le_refl _) ho j hj
    omega
   have hOld : ∀ t ∈ olds i, slot a t = slot a0 t := by
    intro t ht
    refine hI.old t fun k ok hk hd => ?_
    have h := ok_spec hok ho
    simp only [okAt, Bool.and_eq_true, List.all_eq_true] at h
    have hkk := h.1.1.1 t ht k (List.mem_range.2 (Array.getElem?_eq_some_iff.1 hk).1)
    simp only [hk, hd, bne_self_eq_false, Bool.false_or, List.contains_iff_mem] at hkk
    cases hl : listed.getD k true with
    | false => rfl
    | true =>
      have := hI.down k ok hk hl i hkk
      rw [this] at h0; cases h0
   refine wpOp_mono ?_ (hstep i o ho a w hI.size hI.rest hOld hI.below fun j hj => hI.facts j (hdepslt j hj) (hdeps j hj))
   rintro a' w' ⟨v, rfl, hfi, hbw, hkeep⟩
   have hnl : ∀ j, j < ops.size → listed.getD j true = true → i ∉ deps j := by
    intro j hj hlj hmem
    have := deps_listed hok hI.down j j ops[j] (Nat.le_refl _) (Array.getElem?_eq_getElem hj) (hI.down j ops[j] (Array.getElem?_eq_getElem hj) hlj) i hmem
    rw [this] at h0; cases h0
   refine ih _ _ _ (by simpa using hsz) ?_ ⟨?_, ?_, ?_, ?_, ?_, ?_⟩
   · -- the count goes down
     have hls : i < listed.size := listed_lt h0
     have hv : listed[i] = false := by simpa [hls] using h0
     have hset : (listed.setIfInBounds i true).toList = listed.toList.set i true := by simp
     rw [hset, List.countP_set (by simpa using hls)]
     have h1 : listed.toList[i] = false := by simpa using hv
     simp only [h1, Bool.not_false, if_true, Bool.not_true, Bool.false_eq_true, if_false]
     omega
   · rw [defers_put]; exact hI.defers
   · rw [size_put]; exact hI.size
   · intro t ht
     have hne : o.dst ≠ some t := fun hd => by
      have := ht i o ho hd
      have hls : i < listed.size := listed_lt h0
      simp [hls] at this
     rw [slot_put_ne _ _ _ _ hne]
     refine hI.old t fun k ok hk hd => ?_
     have := ht k ok hk hd
     by_cases e : i = k
     · subst e; exact h0
     · rwa [getD_set_ne true e] at this
   · exact hI.below.trans hbw
   · intro j oj hoj hlj k hk
     rcases getD_set hlj with rfl | hl
     · rw [ho] at hoj; cases hoj
       have hki : k ≠ j := by
        have h := ok_spec hok ho
        simp only [okAt, Bool.and_eq_true, List.all_eq_true, decide_eq_true_eq] at h
        have := h.1.1.2 k hk
        omega
       rw [getD_set_ne true (Ne.symm hki)]; exact hdir k hk
     · have := hI.down j oj hoj hl k hk
       by_cases e : i = k
       · subst e; rw [this] at h0; cases h0
       · rw [getD_set_ne true e]; exact this
   · intro j hj hlj
     rcases getD_set hlj with rfl | hl
     · exact hfi
     · have hji : j ≠ i := by rintro rfl; rw [hl] at h0; cases h0
       have hfj := hkeep j hji hj (hI.facts j hj hl)
       refine at_put (fun d hd hmem => ?_) hfj
       have h := ok_spec hok (Array.getElem?_eq_getElem hj)
       simp only [okAt, Bool.and_eq_true, List.all_eq_true] at h
       have := h.2 i (List.mem_range.2 hilt)
       simp only [ho, Option.bind_some, hd] at this
       simp only [Bool.or_eq_true, Bool.not_eq_true', beq_iff_eq, List.contains_iff_mem] at this
       rcases this with (h1 | h1) | h1
       · simp [hmem] at h1
       · exact hji h1.symm
       · exact hnl j hj hl h1
theorem wp_region_facts {id : Nat} {a : Act} {w : World} (hm : P.follows .mixedOrders = true) (see deps olds : Nat → List Nat) (fact : Nat → List Value → World → Prop) (hok : ok ops see deps olds = true)
 (B : Nat) (hstep : ∀ i o, ops[i]? = some o → StepOk P ops Q see deps olds fact B a w i o)
 (hend : ∀ a' w', a'.defers = a.defers → a'.tmps.size = a.tmps.size → (∀ t, t ∉ dsts ops → slot a' t = slot a t) → Below B w w' → (∀ i, i < ops.size → At see fact i a' w') → Q .normal a' w') :
 (Code.region id ops true).wp P Q a w := by
 refine wp_region_any hm ?_
 refine wpAny_inv hok (B := B) (a0 := a) (w0 := w) hstep hend ops.size _ a _ (by simp) ?_ ⟨rfl, rfl, fun _ _ => rfl, (Below.refl _ _).drew, ?_, ?_⟩
 · refine Nat.le_trans List.countP_le_length ?_
   simp
 · intro i o hi hl
   have hlt : i < ops.size := (Array.getElem?_eq_some_iff.1 hi).1
   simp [hlt] at hl
 · intro i hi hl
   simp [hi] at hl
end
end Reg
end Go.Proofs.YtldaoepemofhlaaGreatDoor
namespace Go.Proofs.YtldaoepemofhlaaGreatDoor
open Go Go.RowKit
namespace Reg
def putAll (a : Act) : List (Tmp × Value) → Act
 | [] => a
 | x :: l => putAll (a.put (some x.1) x.2) l
theorem putAll_size (l : List (Tmp × Value)) : ∀ a : Act, (putAll a l).tmps.size = a.tmps.size := by
 induction l with
 | nil => intro a; rfl
 | cons x l ih => intro a; rw [putAll, ih, size_put]
theorem putAll_defers (l : List (Tmp × Value)) : ∀ a : Act, (putAll a l).defers = a.defers := by
 induction l with
 | nil => intro a; rfl
 | cons x l ih => intro a; rw [putAll, ih, defers_put]
theorem putAll_other (l : List (Tmp × Value)) (t : Tmp) : ∀ a : Act, t ∉ l.map (·.1) → slot (putAll a l) t = slot a t := by
 induction l with
 | nil => intro a _; rfl
 | cons x l ih =>
   intro a h
   simp only [List.map_cons, List.mem_cons, not_or] at h
   rw [putAll, ih _ h.2, slot_put_ne]
   intro e; injection e with e; exact h.1 e.symm
theorem putAll_at (l : List (Tmp × Value)) (t : Tmp) (v : Value) : ∀ a : Act, t < a.tmps.size → (l.map (·.1)).Nodup → (t, v) ∈ l → slot (putAll a l) t = v := by
 induction l with
 | nil => intro a _ _ h; cases h
 | cons x l ih =>
   intro a ht hn h
   simp only [List.map_cons, List.nodup_cons] at hn
   rw [putAll]
   rcases List.mem_cons.1 h with rfl | h
   · rw [putAll_other _ _ _ hn.1, slot_put_same _ _ _ ht]
   · exact ih _ (by rw [size_put]; exact ht) hn.2 h
def fin (a : Act) (vals : List (Tmp × Value)) (free : List Tmp) (g : Tmp → Value) : Act := putAll a (vals ++ free.map fun t => (t, g t))
def fr (a : Act) (vals late : List (Tmp × Value)) (free : List Tmp) (early : Nat → Bool) (i : Nat) (g : Tmp → Value) : Act := if early i then fin a vals free g else fin a (vals ++ late) free g
def oldsOf (ops : Array Oper) (late : List (Tmp × Value)) (early : Nat → Bool) (i : Nat) : List Tmp :=
 match ops[i]? with
 | some o => if early i then (o.looksAt ops).filter fun t => (late.map (·.1)).contains t else []
 | none => []
def plan (ops : Array Oper) (n : Nat) (vals late : List (Tmp × Value)) (free : List Tmp) (sf : Nat → List Tmp) (early : Nat → Bool) : Bool :=
 (((vals ++ late).map (·.1) ++ free).all fun t => decide (t < n) && (dsts ops).contains t) &&
 ((dsts ops).all fun t => ((vals ++ late).map (·.1) ++ free).contains t) &&
 decide (((vals ++ late).map (·.1) ++ free).Nodup) &&
 decide ((dsts ops).Nodup) &&
 ((List.range ops.size).all fun i => match ops[i]? with
   | none => true
   | some o =>
     ((direct o).all fun j => decide (j < i)) &&
     ((oldsOf ops late early i).all fun t => (List.range ops.size).all fun k => match ops[k]? with
       | some ok => ok.dst != some t || (direct ok).contains i
       | none => true) &&
     ((o.looksAt ops).all fun t => !(dsts ops).contains t || (oldsOf ops late early i).contains t || (direct o).any fun j => ((ops[j]?).bind (·.dst)) == some t) &&
     ((sf i).all fun t => free.contains t && (o.dst == some t || (direct o).any fun j => ((ops[j]?).bind (·.dst)) == some t)))
def seeOf (ops : Array Oper) (sf : Nat → List Tmp) (i : Nat) : List Tmp := (((ops[i]?).bind (·.dst)).toList) ++ sf i
def depsOf (ops : Array Oper) (i : Nat) : List Nat := ((ops[i]?).map direct).getD []
def factOf (ops : Array Oper) (vals : List (Tmp × Value)) (p : Nat → List Value → World → Prop) (i : Nat) (vs : List Value) (w : World) : Prop :=
 match (ops[i]?).bind (·.dst) with
 | some d => (∀ v, (d, v) ∈ vals → vs.head? = some v) ∧ p i vs.tail w
 | none => p i vs w
section
variable {P : Program} {ops : Array Oper} {Q : Exit → Act → World → Prop}
theorem wanted_congr (o : Oper) (a a' : Act) (hsz : a.tmps.size = a'.tmps.size) (h : ∀ t ∈ o.looksAt ops, slot a t = slot a' t) : Region.wanted o (yielded ops a.tmps) = Region.wanted o (yielded ops a'.tmps) := by
 unfold Region.wanted
 cases hg : o.guard with
 | none => rfl
 | some gw =>
   obtain ⟨g, want⟩ := gw
   have hy : yielded ops a.tmps g = yielded ops a'.tmps g := by
    unfold yielded
    cases ht : (ops[g]?).bind (·.dst) with
    | none => rfl
    | some t =>
      have := h t (by simp [Oper.looksAt, hg, ht])
      have e : a.tmps[t]? = a'.tmps[t]? := by
       rcases Nat.lt_or_ge t a.tmps.size with hlt | hge
       · have hlt' : t < a'.tmps.size := hsz ▸ hlt
         simp only [slot, Array.getD_eq_getD_getElem?, Array.getElem?_eq_getElem hlt, Array.getElem?_eq_getElem hlt', Option.getD_some] at this
         rw [Array.getElem?_eq_getElem hlt, Array.getElem?_eq_getElem hlt', this]
       · rw [Array.getElem?_eq_none hge, Array.getElem?_eq_none (show a'.tmps.size ≤ t from hsz ▸ hge)]
      simp only [Option.bind_some, e]
   simp only [hy]
theorem exec_congr (o : Oper) (hs : ∀ cs b, o.op ≠ .select cs b) (a a' : Act) (h : ∀ t ∈ o.looksAt ops, slot a t = slot a' t) : execOp a.eval o = execOp a'.eval o :=
 execOp_congr o hs fun x hx => by
  cases x with
  | tmp t => exact h t (List.mem_append_left _ (List.mem_filterMap.2 ⟨.tmp t, by simpa using hx, rfl⟩))
  | _ => rfl
def Does (P : Program) (ops : Array Oper) (vals : List (Tmp × Value)) (sf : Nat → List Tmp) (p : Nat → List Value → World → Prop) (B : Nat) (F : Act) (i : Nat) (o : Oper) (w : World) : Prop :=
 if Region.wanted o (yielded ops F.tmps) = true then
  Oper.wp P o F w (fun a' w' => ∃ v, a' = F.put o.dst v ∧ (∀ d u, o.dst = some d → (d, u) ∈ vals → v = u) ∧ p i ((sf i).map (slot a')) w' ∧ Below B w w' ∧
   ∀ j, j ≠ i → j < ops.size → p j ((sf j).map (slot F)) w → p j ((sf j).map (slot F)) w') (fun _ _ _ => False)
 else (∀ d u, o.dst = some d → (d, u) ∈ vals → undef = u) ∧ p i ((sf i).map (slot (F.put o.dst undef))) w
theorem upon_congr {o : Oper} {a F : Act} {K K' : Act → World → Prop} {r : Result Next} (h : ∀ v w, K' (F.put o.dst v) w → K (a.put o.dst v) w)
 (hnd : ∀ d w, ¬ K' (({ F with defers := d :: F.defers } : Act).put o.dst undef) w) (hh : o.upon P F K' (fun _ _ _ => False) r) : o.upon P a K Q r := by
 cases r with
 | ok n w =>
   cases n with
   | value v => exact h _ _ hh
   | skip => exact h _ _ hh
   | defer d => exact absurd hh (hnd d w)
   | enter f args =>
     refine Calls.mono hh ?_
     intro e w' he
     cases e with
     | returned v => exact h _ _ he
     | panicked c => exact (he : False).elim
     | outgrown => obtain ⟨_, _, hf⟩ := he; exact hf.elim
   | row row args =>
     refine Rows.mono hh ?_
     intro u w' he
     exact h _ _ he
   | _ => exact (hh : False).elim
 | halt x w =>
   cases x <;> exact (hh : False).elim
theorem fr_size (a : Act) (vals late : List (Tmp × Value)) (free : List Tmp) (early : Nat → Bool) (i : Nat) (g : Tmp → Value) : (fr a vals late free early i g).tmps.size = a.tmps.size := by
 unfold fr fin
 split <;> rw [putAll_size]
theorem wp_region_run {id : Nat} {a : Act} {w : World} (hm : P.follows .mixedOrders = true) (hs : Region.noSelect ops = true)
 (vals late : List (Tmp × Value)) (free : List Tmp) (sf : Nat → List Tmp) (early : Nat → Bool) (p : Nat → List Value → World → Prop) (n : Nat) (hn : a.tmps.size = n) (hok : plan ops n vals late free sf early = true)
 (B : Nat) (hstep : ∀ i o, ops[i]? = some o → ∀ (g : Tmp → Value) (w' : World), Below B w w' → (∀ j ∈ direct o, p j ((sf j).map (slot (fr a vals late free early i g))) w') → Does P ops (vals ++ late) sf p B (fr a vals late free early i g) i o w')
 (hend : ∀ (g : Tmp → Value) (w' : World), Below B w w' → (∀ i, i < ops.size → p i ((sf i).map (slot (fin a (vals ++ late) free g))) w') → Q .normal (fin a (vals ++ late) free g) w') :
 (Code.region id ops true).wp P Q a w := by
 have hok' := hok
 simp only [plan, Bool.and_eq_true, List.all_eq_true, decide_eq_true_eq, List.contains_iff_mem] at hok
 obtain ⟨⟨⟨⟨hk1, hk2⟩, hnod⟩, hdn⟩, hop⟩ := hok
 have hkeys : ∀ (l : List (Tmp × Value)) (g : Tmp → Value), (l ++ free.map fun t => (t, g t)).map (·.1) = l.map (·.1) ++ free := fun l g => by simp [List.map_map, Function.comp_def]
 have hopi : ∀ i o, ops[i]? = some o → (∀ j ∈ direct o, j < i) ∧ (∀ t ∈ o.looksAt ops, t ∈ dsts ops → t ∈ oldsOf ops late early i ∨ ∃ j ∈ direct o, (ops[j]?).bind (·.dst) = some t) ∧ (∀ t ∈ sf i, t ∈ free ∧ (o.dst = some t ∨ ∃ j ∈ direct o, (ops[j]?).bind (·.dst) = some t)) := by
  intro i o hi
  have := hop i (List.mem_range.2 (Array.getElem?_eq_some_iff.1 hi).1)
  simp only [hi, Bool.and_eq_true, List.all_eq_true, decide_eq_true_eq, Bool.or_eq_true, Bool.not_eq_true', List.any_eq_true, beq_iff_eq] at this
  refine ⟨this.1.1.1, fun t ht hd => ?_, fun t ht => ⟨by simpa using (this.2 t ht).1, (this.2 t ht).2⟩⟩
  rcases this.1.2 t ht with (h | h) | h
  · simp [hd] at h
  · exact .inl (by simpa using h)
  · exact .inr h
 -- the facts of the law
 have hnod1 : (vals.map (·.1) ++ free).Nodup := by
  have h := hnod
  simp only [List.map_append, List.append_assoc] at h
  have h1 := List.nodup_append.1 h
  have h2 := List.nodup_append.1 h1.2.1
  exact List.nodup_append.2 ⟨h1.1, h2.2.1, fun x hx y hy => h1.2.2 x hx y (List.mem_append_right _ hy)⟩
 have hlatefree : ∀ t, t ∈ late.map (·.1) → t ∉ vals.map (·.1) ++ free := by
  intro t ht hm
  have h := hnod
  simp only [List.map_append, List.append_assoc] at h
  have h1 := List.nodup_append.1 h
  have h2 := List.nodup_append.1 h1.2.1
  rcases List.mem_append.1 hm with hv | hf
  · exact h1.2.2 t hv t (List.mem_append_left _ ht) rfl
  · exact h2.2.2 t ht t hf rfl
 -- what slot t holds in the frame of operation i
 have hslot : ∀ (i : Nat) (a' : Act), a'.tmps.size = a.tmps.size → (∀ t, t ∉ dsts ops → slot a' t = slot a t) → ∀ t, (t ∉ dsts ops ∨ t ∈ free ∨ (∃ v, (t, v) ∈ vals ∧ slot a' t = v) ∨ (early i = false ∧ ∃ v, (t, v) ∈ late ∧ slot a' t = v) ∨ (early i = true ∧ t ∈ late.map (·.1) ∧ slot a' t = slot a t)) → slot a' t = slot (fr a vals late free early i (slot a')) t := by
  intro i a' hsz hrest t ht
  have hfree' : t ∈ free → ∀ l, (l.map (·.1) ++ free).Nodup → slot (fin a l free (slot a')) t = slot a' t := by
   intro hf l hl
   rw [fin, putAll_at _ t (slot a' t) a (by rw [hn]; exact (hk1 t (List.mem_append_right _ hf)).1) (by rw [hkeys]; exact hl) (List.mem_append_right _ (List.mem_map.2 ⟨t, hf, rfl⟩))]
  have hval' : ∀ v, (t, v) ∈ vals ++ late → ∀ l, (t, v) ∈ l → (l.map (·.1) ++ free).Nodup → slot (fin a l free (slot a')) t = v := by
   intro v hv l hl hnn
   rw [fin, putAll_at _ t v a (by rw [hn]; exact (hk1 t (List.mem_append_left _ (List.mem_map.2 ⟨_, hv, rfl⟩))).1) (by rw [hkeys]; exact hnn) (List.mem_append_left _ hl)]
  unfold fr
  rcases ht with ht | ht | ⟨v, hv, hs⟩ | ⟨he, v, hv, hs⟩ | ⟨he, ht, hs⟩
  · have no : t ∉ (vals ++ late).map (·.1) ++ free := fun hm => ht (hk1 t hm).2
    have no1 : t ∉ vals.map (·.1) ++ free := fun hm => no (by
     simp only [List.map_append, List.append_assoc]
     rcases List.mem_append.1 hm with h | h
     · exact List.mem_append_left _ h
     · exact List.mem_append_right _ (List.mem_append_right _ h))
    split
    · rw [hrest t ht, fin, putAll_other _ _ _ (by rw [hkeys]; exact no1)]
    · rw [hrest t ht, fin, putAll_other _ _ _ (by rw [hkeys]; exact no)]
  · split
    · exact (hfree' ht _ hnod1).symm
    · exact (hfree' ht _ hnod).symm
  · split
    · rw [hval' v (List.mem_append_left _ hv) vals hv hnod1, hs]
    · rw [hval' v (List.mem_append_left _ hv) _ (List.mem_append_left _ hv) hnod, hs]
  · rw [if_neg (by rw [he]; exact Bool.false_ne_true), hval' v (List.mem_append_right _ hv) _ (List.mem_append_right _ hv) hnod, hs]
  · rw [if_pos he, hs, fin, putAll_other _ _ _ (by rw [hkeys]; exact hlatefree t ht)]
 have hslotE : ∀ (a' : Act), a'.tmps.size = a.tmps.size → (∀ t, t ∉ dsts ops → slot a' t = slot a t) → ∀ t, (t ∉ dsts ops ∨ t ∈ free ∨ ∃ v, (t, v) ∈ vals ++ late ∧ slot a' t = v) → slot a' t = slot (fin a (vals ++ late) free (slot a')) t := by
  intro a' hsz hrest t ht
  rcases ht with ht | ht | ⟨v, hv, hs⟩
  · rw [hrest t ht, fin, putAll_other]
    rw [hkeys]
    intro hm
    exact ht (hk1 t hm).2
  · rw [fin, putAll_at _ t (slot a' t) a (by rw [hn]; exact (hk1 t (List.mem_append_right _ ht)).1) (by rw [hkeys]; exact hnod) (List.mem_append_right _ (List.mem_map.2 ⟨t, ht, rfl⟩))]
  · rw [hs, fin, putAll_at _ t v a (by rw [hn]; exact (hk1 t (List.mem_append_left _ (List.mem_map.2 ⟨_, hv, rfl⟩))).1) (by rw [hkeys]; exact hnod) (List.mem_append_left _ hv)]
 have hallOk : ok ops (seeOf ops sf) (depsOf ops) (oldsOf ops late early) = true := by
  refine List.all_eq_true.2 fun i hi => ?_
  have hlt := List.mem_range.1 hi
  rw [Array.getElem?_eq_getElem hlt]
  obtain ⟨h1, h2, h3⟩ := hopi i ops[i] (Array.getElem?_eq_getElem hlt)
  simp only [okAt, Bool.and_eq_true, List.all_eq_true, decide_eq_true_eq, List.any_eq_true, Bool.or_eq_true, beq_iff_eq]
  have hold : ∀ t ∈ oldsOf ops late early i, ∀ k ∈ List.range ops.size, (match ops[k]? with | some ok => ok.dst != some t || (direct ok).contains i | none => true) = true := by
   have := hop i (List.mem_range.2 hlt)
   rw [Array.getElem?_eq_getElem hlt] at this
   simp only [Bool.and_eq_true, List.all_eq_true] at this
   exact this.1.1.2
  refine ⟨⟨⟨hold, h1⟩, fun j hj => ⟨j, by simpa [depsOf, hlt] using hj, .inl rfl⟩⟩, fun k hk => ?_⟩
  have hklt := List.mem_range.1 hk
  rw [Array.getElem?_eq_getElem hklt]
  cases hd : ops[k].dst with
  | none => simp [hd]
  | some d =>
    simp only [Option.bind_some, hd, Bool.or_eq_true, Bool.not_eq_true', beq_iff_eq, List.contains_iff_mem]
    by_cases hm : d ∈ seeOf ops sf i
    · -- who writes d
      have uniq : ∀ j, (ops[j]?).bind (·.dst) = some d → j = k := by
       intro j hj
       cases hoj : ops[j]? with
       | none => rw [hoj] at hj; cases hj
       | some oj =>
         rw [hoj] at hj
         have hjlt : j < ops.size := (Array.getElem?_eq_some_iff.1 hoj).1
         -- dsts has no doubles
         have key : ∀ (l : List Oper) (x y : Nat) (ox oy : Oper), (l.filterMap (·.dst)).Nodup → l[x]? = some ox → l[y]? = some oy → ox.dst = some d → oy.dst = some d → x = y := by
          intro l
          induction l with
          | nil => intro x y ox oy _ hx; simp at hx
          | cons z l ih =>
            intro x y ox oy hnn hx hy hdx hdy
            have hl : (l.filterMap (·.dst)).Nodup := by
             cases hz : z.dst with
             | none => simpa [List.filterMap_cons, hz] using hnn
             | some dz => rw [List.filterMap_cons_some (h := hz)] at hnn; exact (List.nodup_cons.1 hnn).2
            have hz0 : z.dst = some d → d ∉ l.filterMap (·.dst) := fun hz => by
             rw [List.filterMap_cons_some (h := hz)] at hnn; exact (List.nodup_cons.1 hnn).1
            cases x with
            | zero =>
              cases y with
              | zero => rfl
              | succ y =>
                simp at hx hy; subst hx
                exact absurd (List.mem_filterMap.2 ⟨oy, List.mem_of_getElem? hy, hdy⟩) (hz0 hdx)
            | succ x =>
              cases y with
              | zero =>
                simp at hx hy; subst hy
                exact absurd (List.mem_filterMap.2 ⟨ox, List.mem_of_getElem? hx, hdx⟩) (hz0 hdy)
              | succ y =>
                simp at hx hy
                rw [ih x y ox oy hl hx hy hdx hdy]
         exact key ops.toList j k oj ops[k] hdn (by simpa using hoj) (by simp [hklt]) (by simpa using hj) hd
      unfold seeOf at hm
      rw [Array.getElem?_eq_getElem hlt] at hm
      rcases List.mem_append.1 hm with hm | hm
      · left; right
        have : ops[i].dst = some d := by simpa using hm
        exact (uniq i (by rw [Array.getElem?_eq_getElem hlt]; simpa using this)).symm
      · rcases (h3 d hm).2 with h | ⟨j, hj, hjd⟩
        · left; right
          exact (uniq i (by rw [Array.getElem?_eq_getElem hlt]; simpa using h)).symm
        · right
          have := uniq j hjd
          subst this
          simpa [depsOf, hlt] using hj
    · left; left; simpa using hm
 have hfree : ∀ (d : Tmp) (v : Value), (d, v) ∈ vals ++ late → d ∉ free := by
  intro d v hv hf
  have := (List.nodup_append.1 hnod).2.2 d (List.mem_map.2 ⟨_, hv, rfl⟩) d hf
  exact this rfl
 refine wp_region_facts hm (seeOf ops sf) (depsOf ops) (oldsOf ops late early) (factOf ops (vals ++ late) p) hallOk B ?_ ?_
 · intro i o hi a' w' hsz hrest hold hB hdeps
   obtain ⟨h1, h2, h3⟩ := hopi i o hi
   have hilt : i < ops.size := (Array.getElem?_eq_some_iff.1 hi).1
   have hdepsi : depsOf ops i = direct o := by simp [depsOf, hi]
   -- what j's fact says, of j's own p
   have toP : ∀ j, At (seeOf ops sf) (factOf ops (vals ++ late) p) j a' w' → p j ((sf j).map (slot a')) w' := by
    intro j hj
    unfold At factOf seeOf at hj
    cases hd : (ops[j]?).bind (·.dst) with
    | none => simpa [hd] using hj
    | some d => simp only [hd] at hj; simpa using hj.2
   have exact_of : ∀ j ∈ direct o, ∀ t v, (ops[j]?).bind (·.dst) = some t → (t, v) ∈ vals ++ late → slot a' t = v := by
    intro j hj t v hd hv
    have := hdeps j (by rw [hdepsi]; exact hj)
    unfold At factOf seeOf at this
    simp only [hd] at this
    simpa using this.1 v hv
   have agree : ∀ t ∈ o.looksAt ops, slot a' t = slot (fr a vals late free early i (slot a')) t := by
    intro t ht
    refine hslot i a' hsz hrest t ?_
    by_cases hd : t ∈ dsts ops
    · right
      rcases h2 t ht hd with ho | ⟨j, hj, hjd⟩
      · -- it is read as it was
        right; right; right
        have hs := hold t ho
        unfold oldsOf at ho
        rw [hi] at ho
        simp only at ho
        cases he : early i with
        | false => rw [he] at ho; simp at ho
        | true =>
          rw [he] at ho
          simp only [if_true, List.mem_filter, List.contains_iff_mem] at ho
          exact ⟨rfl, ho.2, hs⟩
      · have hmem : t ∈ (vals ++ late).map (·.1) ++ free := hk2 t hd
        rcases List.mem_append.1 hmem with hv | hf
        · obtain ⟨⟨t', v⟩, hv2, rfl⟩ := List.mem_map.1 hv
          have hs := exact_of j hj _ v hjd hv2
          rcases List.mem_append.1 hv2 with h | h
          · exact .inr (.inl ⟨v, h, hs⟩)
          · -- a late slot, already written: this operation is not early
            cases he : early i with
            | false => exact .inr (.inr (.inl ⟨rfl, v, h, hs⟩))
            | true =>
              exfalso
              -- then it is among the olds, and its writer waits for i: but the writer stands before i
              have hol : t' ∈ oldsOf ops late early i := by
               unfold oldsOf
               rw [hi]
               simp only [he, if_true, List.mem_filter, List.contains_iff_mem]
               exact ⟨ht, List.mem_map.2 ⟨_, h, rfl⟩⟩
              have hjlt : j < ops.size := by have := h1 j hj; omega
              have := hop i (List.mem_range.2 hilt)
              rw [hi] at this
              simp only [Bool.and_eq_true, List.all_eq_true] at this
              have hw := this.1.1.2 t' hol j (List.mem_range.2 hjlt)
              rw [Array.getElem?_eq_getElem hjlt] at hw hjd
              simp only [Option.bind_some] at hjd
              simp only [hjd, bne_self_eq_false, Bool.false_or, List.contains_iff_mem] at hw
              have a1 := (hopi j ops[j] (Array.getElem?_eq_getElem hjlt)).1 i hw
              have a2 := h1 j hj
              omega
        · exact .inl hf
    · exact .inl hd
   have agreeF : ∀ j, (sf j).map (slot (fr a vals late free early i (slot a'))) = (sf j).map (slot a') ∨ j ≥ ops.size := by
    intro j
    rcases Nat.lt_or_ge j ops.size with hj | hj
    · left
      refine List.map_congr_left fun t ht => ?_
      obtain ⟨_, _, h3⟩ := hopi j ops[j] (Array.getElem?_eq_getElem hj)
      exact (hslot i a' hsz hrest t (.inr (.inl (h3 t ht).1))).symm
    · exact .inr hj
   have agreeL : ∀ j, j < ops.size → (sf j).map (slot (fr a vals late free early i (slot a'))) = (sf j).map (slot a') := fun j hj => (agreeF j).resolve_right (by omega)
   have hD := hstep i o hi (slot a') w' hB (fun j hj => by
    have hjlt : j < ops.size := by have := h1 j hj; omega
    rw [agreeL j hjlt]
    exact toP j (hdeps j (by rw [hdepsi]; exact hj)))
   have finish : ∀ (v : Value) (w'' : World), (∀ d u, o.dst = some d → (d, u) ∈ vals ++ late → v = u) → p i ((sf i).map (slot ((fr a vals late free early i (slot a')).put o.dst v))) w'' → Below B w' w'' →
    (∀ j, j ≠ i → j < ops.size → p j ((sf j).map (slot (fr a vals late free early i (slot a')))) w' → p j ((sf j).map (slot (fr a vals late free early i (slot a')))) w'') →
    ∃ v', a'.put o.dst v = a'.put o.dst v' ∧ At (seeOf ops sf) (factOf ops (vals ++ late) p) i (a'.put o.dst v) w'' ∧ Below B w' w'' ∧ ∀ j, j ≠ i → j < ops.size → At (seeOf ops sf) (factOf ops (vals ++ late) p) j a' w' → At (seeOf ops sf) (factOf ops (vals ++ late) p) j a' w'' := by
    intro v w'' hex hp hb hkeep
    have hput : (sf i).map (slot (a'.put o.dst v)) = (sf i).map (slot ((fr a vals late free early i (slot a')).put o.dst v)) := by
     refine List.map_congr_left fun t ht => ?_
     by_cases hd : o.dst = some t
     · have htlt : t < n := (hk1 t (List.mem_append_right _ (h3 t ht).1)).1
       rw [hd, slot_put_same _ _ _ (by rw [hsz, hn]; exact htlt), slot_put_same _ _ _ (by rw [fr_size, hn]; exact htlt)]
     · rw [slot_put_ne _ _ _ _ hd, slot_put_ne _ _ _ _ hd]
       exact hslot i a' hsz hrest t (.inr (.inl (h3 t ht).1))
    refine ⟨v, rfl, ?_, hb, fun j hji hj hat => ?_⟩
    · unfold At factOf seeOf
      simp only [hi, Option.bind_some]
      cases hd : o.dst with
      | none => rw [hd] at hp hput; simp only [Option.toList_none, List.nil_append]; rw [hput]; exact hp
      | some d =>
        rw [hd] at hp hput
        simp only [Option.toList_some, List.cons_append, List.nil_append, List.map_cons, List.head?_cons, List.tail_cons]
        refine ⟨fun u hu => ?_, by rw [hput]; exact hp⟩
        have hdlt : d < n := (hk1 d (List.mem_append_left _ (List.mem_map.2 ⟨_, hu, rfl⟩))).1
        rw [slot_put_same _ _ _ (by rw [hsz, hn]; exact hdlt), hex d u hd hu]
    · have hpj := toP j hat
      have hnew := hkeep j hji hj (by rw [agreeL j hj]; exact hpj)
      rw [agreeL j hj] at hnew
      unfold At factOf seeOf at hat ⊢
      cases hd : (ops[j]?).bind (·.dst) with
      | none => simp only [hd, Option.toList_none, List.nil_append] at hat ⊢; exact hnew
      | some d =>
        simp only [hd] at hat ⊢
        exact ⟨hat.1, by simpa using hnew⟩
   have hsel : ∀ cs b, o.op ≠ .select cs b := fun cs b => Region.noSelect_spec hs i o cs b hi
   unfold wpOp
   simp only [hi]
   unfold Does at hD
   rw [← wanted_congr o a' (fr a vals late free early i (slot a')) (by rw [fr_size, hsz]) agree] at hD
   split
   · rename_i hw
     rw [if_pos hw] at hD
     left
     unfold Oper.wp at hD ⊢
     rw [← exec_congr o hsel a' _ agree] at hD
     refine upon_congr (F := fr a vals late free early i (slot a')) ?_ ?_ hD
     · rintro v w'' ⟨v', he, hex, hp, hb, hkeep⟩
       -- v and v' put the same
       cases hd : o.dst with
       | none =>
         rw [hd] at he hp hex
         have := finish v w'' (by rw [hd]; exact fun d u h => by cases h) (by rw [hd]; exact hp) hb hkeep
         rw [hd] at this
         exact this
       | some d =>
         rw [hd] at he hp
         have hdlt : d < n := (hk1 d (hk2 d (List.mem_filterMap.2 ⟨o, by have := Array.mem_of_getElem? hi; simpa using this, hd⟩))).1
         have hvv : v = v' := by
          have h1 : slot ((fr a vals late free early i (slot a')).put (some d) v) d = slot ((fr a vals late free early i (slot a')).put (some d) v') d := congrArg (fun x => slot x d) he
          rwa [slot_put_same _ _ _ (by rw [fr_size, hn]; exact hdlt), slot_put_same _ _ _ (by rw [fr_size, hn]; exact hdlt)] at h1
         subst hvv
         have := finish v w'' hex (by rw [hd]; exact hp) hb hkeep
         rw [hd] at this
         exact this
     · rintro d w'' ⟨v, he, _⟩
       have h1 := congrArg (fun x => x.defers.length) he
       simp only [defers_put, List.length_cons] at h1
       omega
   · rename_i hw
     rw [if_neg (by simpa using hw)] at hD
     exact finish undef w' hD.1 hD.2 (Below.refl _ _) (fun _ _ _ h => h)
 · intro a' w' hdf hsz hrest hB hall
   have hfin : a' = fin a (vals ++ late) free (slot a') := by
    have ht : a'.tmps = (fin a (vals ++ late) free (slot a')).tmps := by
     refine Array.ext (by rw [fin, putAll_size, hsz]) fun t h1 h2 => ?_
     have hs := hslotE a' hsz hrest t (by
      by_cases hd : t ∈ dsts ops
      · right
        have hmem : t ∈ (vals ++ late).map (·.1) ++ free := hk2 t hd
        rcases List.mem_append.1 hmem with hv | hf
        · right
          obtain ⟨⟨t', v⟩, hv2, rfl⟩ := List.mem_map.1 hv
          obtain ⟨o, ho, hod⟩ := List.mem_filterMap.1 hd
          obtain ⟨i, hi, hoi⟩ := List.mem_iff_getElem.1 ho
          have hi' : i < ops.size := by simpa using hi
          have := hall i hi'
          unfold At factOf seeOf at this
          have hio : ops[i]? = some o := by rw [Array.getElem?_eq_getElem hi']; simpa using hoi
          simp only [hio, Option.bind_some, hod] at this
          exact ⟨v, hv2, by simpa using this.1 v hv2⟩
        · exact .inl hf
      · exact .inl hd)
     simpa [slot, h1, h2] using hs
    have hd : a'.defers = (fin a (vals ++ late) free (slot a')).defers := by rw [hdf, fin, putAll_defers]
    obtain ⟨x, y⟩ := a'
    simp only at ht hd
    cases hF : fin a (vals ++ late) free (slot ⟨x, y⟩) with
    | mk x' y' => rw [hF] at ht hd; simp only at ht hd; rw [ht, hd]
   have hq := hend (slot a') w' hB (fun i hi => by
    have := hall i hi
    rw [← hfin]
    unfold At factOf seeOf at this
    cases hd : (ops[i]?).bind (·.dst) with
    | none => simpa [hd] using this
    | some d => simp only [hd] at this; simpa using this.2)
   rw [← hfin] at hq
   exact hq
def Each (f : Nat → Oper → Prop) : Nat → List Oper → Prop
 | _, [] => True
 | i, o :: l => f i o ∧ Each f (i + 1) l
theorem each_at {f : Nat → Oper → Prop} : ∀ (l : List Oper) (k i : Nat) (o : Oper), Each f k l → l[i]? = some o → f (k + i) o
 | [], _, _, _, _, h => by simp at h
 | x :: l, k, 0, o, h, he => by simp at he; subst he; exact h.1
 | x :: l, k, i + 1, o, h, he => by
   have := each_at l (k + 1) i o h.2 (by simpa using he)
   rwa [Nat.add_assoc, Nat.add_comm 1 i] at this
theorem put_slot (F : Act) (d : Tmp) (v : Value) (h : d < F.tmps.size) (e : F.put (some d) v = F) : slot F d = v := by
 rw [← e, slot_put_same _ _ _ h]
def DoesV (P : Program) (ops : Array Oper) (E F : Act) (o : Oper) (w : World) : Prop :=
 if Region.wanted o (yielded ops E.tmps) = true then Oper.wp P o E w (fun a' w' => ∃ v, a' = E.put o.dst v ∧ F.put o.dst v = F ∧ Below w.heap.size w w') (fun _ _ _ => False)
 else F.put o.dst undef = F
theorem wp_region_late {id : Nat} {a : Act} {w : World} (hm : P.follows .mixedOrders = true) (hs : Region.noSelect ops = true)
 (vals late : List (Tmp × Value)) (early : Nat → Bool) (n : Nat) (hn : a.tmps.size = n) (hok : plan ops n vals late [] (fun _ => []) early = true)
 (hstep : ∀ E F : Act, E = putAll a vals → F = putAll a (vals ++ late) → ∀ w', Below w.heap.size w w' → Each (fun i o => DoesV P ops (if early i then E else F) F o w') 0 ops.toList)
 (hend : ∀ w', Below w.heap.size w w' → Q .normal (putAll a (vals ++ late)) w') :
 (Code.region id ops true).wp P Q a w := by
 have hfin : ∀ g l, fin a l [] g = putAll a l := fun g l => by simp [fin]
 have hok' := hok
 simp only [plan, Bool.and_eq_true, List.all_eq_true, decide_eq_true_eq, List.contains_iff_mem, List.append_nil] at hok
 obtain ⟨⟨⟨⟨hk1, hk2⟩, hnod⟩, hdn⟩, hop⟩ := hok
 refine wp_region_run hm hs vals late [] (fun _ => []) early (fun _ _ _ => True) n hn hok' w.heap.size ?_ ?_
 · intro i o hi g w' hB _
   have hD := each_at ops.toList 0 i o (hstep _ _ rfl rfl w' hB) (by simpa using hi)
   have hfr : fr a vals late [] early i g = if early i then putAll a vals else putAll a (vals ++ late) := by unfold fr; rw [hfin, hfin]
   rw [hfr]
   rw [Nat.zero_add] at hD
   have hex : ∀ (v : Value), (putAll a (vals ++ late)).put o.dst v = putAll a (vals ++ late) → ∀ d u, o.dst = some d → (d, u) ∈ vals ++ late → v = u := by
    intro v hv d u hd hu
    have hdlt : d < n := (hk1 d (List.mem_map.2 ⟨_, hu, rfl⟩)).1
    rw [hd] at hv
    have h1 := put_slot _ d v (by rw [putAll_size, hn]; exact hdlt) hv
    rw [← h1, putAll_at (vals ++ late) d u a (by rw [hn]; exact hdlt) hnod hu]
   generalize (if early i = true then putAll a vals else putAll a (vals ++ late)) = E at hD ⊢
   unfold DoesV at hD
   unfold Does
   split
   · rename_i hw
     rw [if_pos hw] at hD
     unfold Oper.wp at hD ⊢
     refine upon_congr (F := E) ?_ ?_ hD
     · rintro v w'' ⟨v', he, hF, hb⟩
       refine ⟨v', he, hex v' hF, trivial, hb.mono (by have := hB.size; omega), fun _ _ _ h => h⟩
     · rintro d w'' ⟨v, he, _⟩
       have h1 := congrArg (fun x => x.defers.length) he
       simp only [defers_put, List.length_cons] at h1
       omega
   · rename_i hw
     rw [if_neg hw] at hD
     exact ⟨hex undef hD, trivial⟩
 · intro g w' hB _
   rw [hfin]
   exact hend w' hB
theorem wp_region_vals {id : Nat} {a : Act} {w : World} (hm : P.follows .mixedOrders = true) (hs : Region.noSelect ops = true)
 (vals : List (Tmp × Value)) (n : Nat) (hn : a.tmps.size = n) (hok : plan ops n vals [] [] (fun _ => []) (fun _ => false) = true)
 (hstep : ∀ F : Act, F = putAll a vals → ∀ w', Below w.heap.size w w' → Each (fun _ o => DoesV P ops F F o w') 0 ops.toList)
 (hend : ∀ w', Below w.heap.size w w' → Q .normal (putAll a vals) w') :
 (Code.region id ops true).wp P Q a w := by
 refine wp_region_late hm hs vals [] (fun _ => false) n hn hok ?_ ?_
 · intro E F _ hF w' hB
   rw [List.append_nil] at hF
   exact hstep F hF w' hB
 · intro w' hB
   rw [List.append_nil]
   exact hend w' hB
theorem doesV_val {E F : Act} {o : Oper} {w : World} {v : Value} (hr : (execOp E.eval o).run P w = .ok (.value v) w) (hw : Region.wanted o (yielded ops E.tmps) = true) (hF : F.put o.dst v = F) : DoesV P ops E F o w := by
 unfold DoesV
 rw [if_pos hw]
 unfold Oper.wp
 rw [hr]
 exact ⟨v, rfl, hF, Below.refl _ _⟩
theorem doesV_skip {E F : Act} {o : Oper} {w : World} (hw : Region.wanted o (yielded ops E.tmps) = false) (hF : F.put o.dst undef = F) : DoesV P ops E F o w := by
 unfold DoesV
 rw [if_neg (by rw [hw]; exact Bool.false_ne_true)]
 exact hF
theorem doesV_call {E F : Act} {o : Oper} {w : World} {v : Value} {f : FuncId} {args : Array Value} (hc : Calls P f args w fun e w' => e = .returned v ∧ Below w.heap.size w w')
 (hr : (execOp E.eval o).run P w = .ok (.enter f args) w) (hw : Region.wanted o (yielded ops E.tmps) = true) (hF : F.put o.dst v = F) : DoesV P ops E F o w := by
 unfold DoesV
 rw [if_pos hw]
 unfold Oper.wp
 rw [hr]
 refine Calls.mono hc ?_
 rintro e w' ⟨rfl, hb⟩
 exact ⟨v, rfl, hF, hb⟩
end
end Reg
end Go.Proofs.YtldaoepemofhlaaGreatDoor
namespace Go.Proofs.YtldaoepemofhlaaGreatDoor
open Go Go.RowKit
structure Val where
 k : Int
 n : Int
 s : ByteArray
abbrev emp : ByteArray := ⟨#[]⟩
abbrev Val.v (a : Val) : Value := .agg #[.int .i64 a.k, .int .i64 a.n, .string a.s]
def Val.eq (a b : Val) : Bool := decide (a.k = b.k) && (decide (a.n = b.n) && decide (a.s.toList = b.s.toList))
theorem toList_inj {a b : ByteArray} (h : a.toList = b.toList) : a = b := by
 rw [ByteArray.toList_eq, ByteArray.toList_eq] at h
 obtain ⟨⟨x⟩⟩ := a
 obtain ⟨⟨y⟩⟩ := b
 simp at h
 rw [h]
theorem Val.eq_iff {a b : Val} : a.eq b = true ↔ a = b := by
 obtain ⟨k, n, s⟩ := a
 obtain ⟨k', n', s'⟩ := b
 simp only [Val.eq, Bool.and_eq_true, decide_eq_true_eq, Val.mk.injEq]
 constructor
 · rintro ⟨h1, h2, h3⟩; exact ⟨h1, h2, toList_inj h3⟩
 · rintro ⟨h1, h2, h3⟩; exact ⟨h1, h2, by rw [h3]⟩
theorem Val.eq_self (a : Val) : a.eq a = true := Val.eq_iff.2 rfl
def nl : Val := ⟨0, 0, emp⟩
def iv (n : Int) : Val := ⟨2, n, emp⟩
theorem run_eqIn (w : World) (k n k' n' : Int) (s s' : ByteArray) : (Op.equalIn 10000 39 (.agg #[.int .i64 k, .int .i64 n, .string s]) (.agg #[.int .i64 k', .int .i64 n', .string s'])).run Tryz.prog w = .ok (Val.eq ⟨k, n, s⟩ ⟨k', n', s'⟩) w := by
 simp [go_sem, Tryz.underlying39, Tryz.underlying3, Tryz.underlying9]
 by_cases h1 : k = k' <;> by_cases h2 : n = n' <;> by_cases h3 : s.toList = s'.toList <;> simp [Val.eq, h1, h2, h3]
theorem run_eqV (w : World) (k n k' n' : Int) (s s' : ByteArray) : (binOp .eql 39 (.agg #[.int .i64 k, .int .i64 n, .string s]) (.agg #[.int .i64 k', .int .i64 n', .string s'])).run Tryz.prog w = .ok (.bool (Val.eq ⟨k, n, s⟩ ⟨k', n', s'⟩)) w := by
 rw [run_eql_struct, run_eqIn]; rfl
theorem run_neV (w : World) (k n k' n' : Int) (s s' : ByteArray) : (binOp .neq 39 (.agg #[.int .i64 k, .int .i64 n, .string s]) (.agg #[.int .i64 k', .int .i64 n', .string s'])).run Tryz.prog w = .ok (.bool !(Val.eq ⟨k, n, s⟩ ⟨k', n', s'⟩)) w := by
 rw [run_neq_struct, run_eqIn]; rfl
theorem mixed : Tryz.prog.follows .mixedOrders = true := by kernel_rfl
def Bx (w : World) (b : Nat) (a : Val) : Prop := w.heap[b]? = some (.cells #[.int .i64 a.k, .int .i64 a.n, .string a.s] 39 (0, 0))
theorem Bx.cell0 {w : World} {b : Nat} {a : Val} (h : Bx w b a) : w.cell? ⟨b, 0, none⟩ = some (.int .i64 a.k) := by unfold Bx at h; simp [World.cell?, h]
theorem Bx.cell1 {w : World} {b : Nat} {a : Val} (h : Bx w b a) : w.cell? ⟨b, 1, none⟩ = some (.int .i64 a.n) := by unfold Bx at h; simp [World.cell?, h]
theorem Bx.cell2 {w : World} {b : Nat} {a : Val} (h : Bx w b a) : w.cell? ⟨b, 2, none⟩ = some (.string a.s) := by unfold Bx at h; simp [World.cell?, h]
theorem Bx.lt {w : World} {b : Nat} {a : Val} (h : Bx w b a) : b < w.heap.size := by
 rcases Nat.lt_or_ge b w.heap.size with hlt | hge
 · exact hlt
 · unfold Bx at h; rw [Array.getElem?_eq_none hge] at h; cases h
theorem Bx.below {w w' : World} {b B : Nat} {a : Val} (h : Bx w b a) (hb : Below B w w') (hlt : b < B) : Bx w' b a := (hb.block b hlt).trans h
theorem Bx.after {w w' : World} {b : Nat} {a : Val} (h : Bx w b a) (hb : Below w.heap.size w w') : Bx w' b a := h.below hb h.lt
theorem Bx.new (w : World) (a : Val) : Bx (w.alloc (.cells #[.int .i64 a.k, .int .i64 a.n, .string a.s] 39)) w.heap.size a := by
 show (w.heap.push _)[w.heap.size]? = _
 simp
theorem Bx.alloc {w : World} {b : Nat} {a : Val} (h : Bx w b a) (o : Obj) : Bx (w.alloc o) b a := (Below.heap_alloc w o b h.lt).trans h
theorem Bx.load {w : World} {b : Nat} {a : Val} (h : Bx w b a) : (Instr.loadAt 39 (.pointer (some ⟨b, 0, none⟩))).run Tryz.prog w = .ok a.v w := by
 have h0 := h.cell0
 have h1 := h.cell1
 have h2 := h.cell2
 go_simp
theorem ev_move {P : Program} {F : Act} {w : World} {x : Operand} {o : Oper} (ho : o.op = .move x) : (execOp F.eval o).run P w = .ok (.value (F.eval x)) w := by
 simp [execOp, ho]
theorem ev_assign {P : Program} {F : Act} {w : World} {x : Operand} {o : Oper} (ho : o.op = .assign x) : (execOp F.eval o).run P w = .ok (.value (F.eval x)) w := by
 simp [execOp, ho]
theorem ev_pick {P : Program} {F : Act} {w : World} {t : Tmp} {x y : Operand} {o : Oper} (b : Bool) (ho : o.op = .pick (.tmp t) x y) (ht : Reg.slot F t = .bool b) : (execOp F.eval o).run P w = .ok (.value (if b then F.eval x else F.eval y)) w := by
 have e : F.eval (.tmp t) = .bool b := ht
 simp only [execOp, ho, e]
 cases b <;> simp [asBool]
theorem ev_load {F : Act} {w : World} {b : Nat} {a : Val} {t : Tmp} {o : Oper} (h : Bx w b a) (ho : o.op = .load 39 (.tmp t)) (ht : Reg.slot F t = .pointer (some ⟨b, 0, none⟩)) :
 (execOp F.eval o).run Tryz.prog w = .ok (.value a.v) w := by
 have e : F.eval (.tmp t) = .pointer (some ⟨b, 0, none⟩) := ht
 simp [execOp, ho, e, h.load]
theorem ev_call {F : Act} {w : World} {f : FuncId} {args : Array Operand} {ats : Array TypeId} {vs : Array Value} {o : Oper} (hE : ∀ args w, (callFunc f args).run Tryz.prog w = .ok (.enter f args) w)
 (ho : o.op = .call { callee := .value (.func f), args := args, argTypes := ats }) (hv : args.map F.eval = vs) : (execOp F.eval o).run Tryz.prog w = .ok (.enter f vs) w := by
 have h := hE (args.map F.eval) w
 subst hv
 simp [execOp, ho, resolve, go_sem, h]
theorem Bx.frozen {w : World} {b : Nat} {a : Val} (h : Bx w b a) (i : Nat) : w.frozen? ⟨b, i, none⟩ = false := by
 unfold Bx at h
 simp [World.frozen?, h]
theorem Bx.new1 (w : World) (a : Val) (o : Obj) : Bx ((w.alloc o).alloc (.cells #[.int .i64 a.k, .int .i64 a.n, .string a.s] 39)) (w.heap.size + 1) a := by
 have := Bx.new (w.alloc o) a
 simpa using this
def put3 (w : World) (b : Nat) (a : Val) : World := ((w.setCell ⟨b, 0, none⟩ (.int .i64 a.k)).setCell ⟨b, 1, none⟩ (.int .i64 a.n)).setCell ⟨b, 2, none⟩ (.string a.s)
theorem Bx.put {w : World} {b : Nat} {x : Val} (h : Bx w b x) (a : Val) : Bx (put3 w b a) b a := by
 unfold Bx at h
 simp [Bx, put3, World.setCell, Array.getElem?_modify, h]
theorem put3_below {B : Nat} {w0 w : World} {b : Nat} (h : Below B w0 w) (hb : B ≤ b) (a : Val) : Below B w0 (put3 w b a) := ((h.setCell hb _).setCell hb _).setCell hb _
theorem ret_val {fn : Func} {R : Ending → World → Prop} {F : Act} {w : World} {t : Tmp} {b : Nat} {a : Val} (hres : fn.results = #[.cell t 39]) (ht : Reg.slot F t = .pointer (some ⟨b, 0, none⟩)) (hb : Bx w b a) (hd : F.defers = [])
 (hR : R (.returned a.v) w) : bodyPost Tryz.prog fn R .ret F w := by
 have h0 := hb.cell0
 have h1 := hb.cell1
 have h2 := hb.cell2
 refine bodyPost_ret (v := a.v) ?_ hd hR
 have ht' : F.tmps[t]?.getD undef = .pointer (some ⟨b, 0, none⟩) := by simpa [Reg.slot] using ht
 simp [results, hres, ht', go_sem, h0, h1, h2]
theorem below_one (w : World) (o : Obj) : Below w.heap.size w (w.alloc o) := (Below.refl _ _).alloc (Nat.le_refl _) _
theorem below_two (w : World) (o o' : Obj) : Below w.heap.size w ((w.alloc o).alloc o') := (below_one _ _).alloc (by simp) _
def Sl (w : World) (A : Option Addr) (vs : List Val) : Prop :=
 vs = [] ∨ ∃ b off, A = some ⟨b, off, none⟩ ∧ b < w.heap.size ∧ ∀ i (a : Val), vs[i]? = some a →
  w.cell? ⟨b, off + i * 3, none⟩ = some (.int .i64 a.k) ∧ w.cell? ⟨b, off + i * 3 + 1, none⟩ = some (.int .i64 a.n) ∧ w.cell? ⟨b, off + i * 3 + 2, none⟩ = some (.string a.s)
theorem Sl.after {w w' : World} {A : Option Addr} {vs : List Val} (h : Sl w A vs) (hb : Below w.heap.size w w') : Sl w' A vs := by
 rcases h with h | ⟨b, off, hA, hlt, h⟩
 · exact .inl h
 · refine .inr ⟨b, off, hA, Nat.lt_of_lt_of_le hlt hb.size, fun i a ha => ?_⟩
   obtain ⟨h0, h1, h2⟩ := h i a ha
   exact ⟨(hb.cell hlt).trans h0, (hb.cell hlt).trans h1, (hb.cell hlt).trans h2⟩
theorem ev_not {P : Program} {F : Act} {w : World} {t : Tmp} {ty : TypeId} {o : Oper} (b : Bool) (ho : o.op = .unOp .not ty (.tmp t)) (ht : Reg.slot F t = .bool b) :
 (execOp F.eval o).run P w = .ok (.value (.bool !b)) w := by
 have e1 : F.eval (.tmp t) = .bool b := ht
 simp [execOp, ho, e1, Op.unary]
def mayB (x : Val) : Bool := if x.k == 0 then x.n == 0 && x.s.toList.isEmpty else if x.k == 1 then (x.n == 0 || x.n == 1) && x.s.toList.isEmpty else if x.k == 2 then x.s.toList.isEmpty else if x.k == 3 then x.n == 0 && decide (x.s.size ≤ 1000) else false
def Valid (x : Val) : Prop := (x.k = 0 ∧ x.n = 0 ∧ x.s = emp) ∨ (x.k = 1 ∧ (x.n = 0 ∨ x.n = 1) ∧ x.s = emp) ∨ (x.k = 2 ∧ x.s = emp) ∨ (x.k = 3 ∧ x.n = 0 ∧ x.s.size ≤ 1000)
def rmB (x : Val) : Bool := if x.k == 0 || x.k == 1 then x.s.toList.isEmpty && decide (0 ≤ x.n) && decide (x.n ≤ x.k) else if x.k == 2 then x.s.toList.isEmpty else x.k == 3 && x.n == 0 && decide (x.s.size ≤ 1000)
theorem emp_of {s : ByteArray} (h : s.toList.isEmpty = true) : s = emp := by
 rw [ByteArray.toList_eq] at h
 obtain ⟨⟨l⟩⟩ := s
 simp at h
 rw [h]
theorem valid_of (x : Val) (h : rmB x = true) : Valid x := by
 unfold rmB at h
 unfold Valid
 by_cases h01 : x.k = 0 ∨ x.k = 1
 · have e : (x.k == 0 || x.k == 1) = true := by simpa using h01
   rw [e] at h
   simp only [if_true, Bool.and_eq_true, decide_eq_true_eq] at h
   have hs := emp_of h.1.1
   rcases h01 with hk | hk
   · exact .inl ⟨hk, by omega, hs⟩
   · exact .inr (.inl ⟨hk, by omega, hs⟩)
 · have e : (x.k == 0 || x.k == 1) = false := by simpa using h01
   rw [e] at h
   simp only [Bool.false_eq_true, if_false] at h
   by_cases h2 : x.k = 2
   · have e2 : (x.k == 2) = true := by simpa using h2
     rw [e2] at h
     exact .inr (.inr (.inl ⟨h2, emp_of h⟩))
   · have e2 : (x.k == 2) = false := by simpa using h2
     rw [e2] at h
     simp only [Bool.false_eq_true, if_false, Bool.and_eq_true, beq_iff_eq, decide_eq_true_eq] at h
     exact .inr (.inr (.inr ⟨h.1.1, h.1.2, h.2⟩))
theorem rm_of_valid (x : Val) (h : Valid x) : rmB x = true := by
 rcases h with ⟨hk, hn, hs⟩ | ⟨hk, hn, hs⟩ | ⟨hk, hs⟩ | ⟨hk, hn, hs⟩
 · simp [rmB, hk, hn, hs]
 · rcases hn with hn | hn <;> simp [rmB, hk, hn, hs]
 · simp [rmB, hk, hs]
 · simp [rmB, hk, hn, hs]
theorem rm_iff (x : Val) : rmB x = true ↔ Valid x := ⟨valid_of x, rm_of_valid x⟩
theorem may_of_valid (x : Val) (h : Valid x) : mayB x = true := by
 rcases h with ⟨hk, hn, hs⟩ | ⟨hk, hn, hs⟩ | ⟨hk, hs⟩ | ⟨hk, hn, hs⟩
 · simp [mayB, hk, hn, hs]
 · rcases hn with hn | hn <;> simp [mayB, hk, hn, hs]
 · simp [mayB, hk, hs]
 · simp [mayB, hk, hn, hs]
theorem valid_of_may (x : Val) (h : mayB x = true) : Valid x := by
 unfold mayB at h
 by_cases h0 : x.k = 0
 · simp only [h0, beq_self_eq_true, if_true, Bool.and_eq_true, beq_iff_eq] at h
   exact .inl ⟨h0, h.1, emp_of h.2⟩
 by_cases h1 : x.k = 1
 · simp [h1] at h
   exact .inr (.inl ⟨h1, h.1, emp_of (by simpa using h.2)⟩)
 by_cases h2 : x.k = 2
 · simp [h2] at h
   exact .inr (.inr (.inl ⟨h2, emp_of (by simpa using h)⟩))
 by_cases h3 : x.k = 3
 · simp [h3] at h
   exact .inr (.inr (.inr ⟨h3, h⟩))
 simp [h0, h1, h2, h3] at h
theorem may_iff (x : Val) : mayB x = true ↔ Valid x := ⟨valid_of_may x, may_of_valid x⟩
theorem may_rm (x : Val) : mayB x = rmB x := by
 rw [Bool.eq_iff_iff, may_iff, rm_iff]
set_option maxHeartbeats 1000000 in
theorem may_null (x : Val) (w : World) (h : (x.k == 0) = true) : Calls Tryz.prog 73 #[x.v] w fun e w' => e = .returned (.bool (x.n == 0 && x.s.toList.isEmpty)) ∧ Below w.heap.size w w' := by
 cases hn : x.n == 0
 all_goals
  go_enter Tryz.func73, Tryz.ntmps73
  go_wp2
  go_ret
  exact ⟨rfl, below_one _ _⟩
set_option maxHeartbeats 1000000 in
theorem may_bool (x : Val) (w : World) (h0 : (x.k == 0) = false) (h : (x.k == 1) = true) : Calls Tryz.prog 73 #[x.v] w fun e w' => e = .returned (.bool ((x.n == 0 || x.n == 1) && x.s.toList.isEmpty)) ∧ Below w.heap.size w w' := by
 cases hn : x.n == 0
 · cases hn1 : x.n == 1
   all_goals
    go_enter Tryz.func73, Tryz.ntmps73
    go_wp2
    go_ret
    exact ⟨rfl, below_one _ _⟩
 · go_enter Tryz.func73, Tryz.ntmps73
   go_wp2
   go_ret
   exact ⟨rfl, below_one _ _⟩
set_option maxHeartbeats 1000000 in
theorem may_int (x : Val) (w : World) (h0 : (x.k == 0) = false) (h1 : (x.k == 1) = false) (h : (x.k == 2) = true) : Calls Tryz.prog 73 #[x.v] w fun e w' => e = .returned (.bool x.s.toList.isEmpty) ∧ Below w.heap.size w w' := by
 go_enter Tryz.func73, Tryz.ntmps73
 go_wp2
 go_ret
 exact ⟨rfl, below_one _ _⟩
set_option maxHeartbeats 1000000 in
theorem may_text (x : Val) (w : World) (h0 : (x.k == 0) = false) (h1 : (x.k == 1) = false) (h2 : (x.k == 2) = false) (h : (x.k == 3) = true) (hs : x.s.size ≤ maxLen) : Calls Tryz.prog 73 #[x.v] w fun e w' => e = .returned (.bool (x.n == 0 && decide (x.s.size ≤ 1000))) ∧ Below w.heap.size w w' := by
 unfold maxLen at hs
 cases hn : x.n == 0
 · go_enter Tryz.func73, Tryz.ntmps73
   go_wp2
   go_ret
   exact ⟨rfl, below_one _ _⟩
 · by_cases hz : x.s.size ≤ 1000
   · have hz' : decide (x.s.size ≤ 1000) = true := decide_eq_true hz
     have hz2 : decide ((x.s.size : Int) ≤ 1000) = true := decide_eq_true (by omega)
     go_enter Tryz.func73, Tryz.ntmps73
     go_wp2
     go_ret
     exact ⟨by rw [hz']; rfl, below_one _ _⟩
   · have hz' : decide (x.s.size ≤ 1000) = false := decide_eq_false hz
     have hz2 : decide ((x.s.size : Int) ≤ 1000) = false := decide_eq_false (by omega)
     go_enter Tryz.func73, Tryz.ntmps73
     go_wp2
     go_ret
     exact ⟨by rw [hz']; rfl, below_one _ _⟩
set_option maxHeartbeats 1000000 in
theorem may_other (x : Val) (w : World) (h0 : (x.k == 0) = false) (h1 : (x.k == 1) = false) (h2 : (x.k == 2) = false) (h3 : (x.k == 3) = false) : Calls Tryz.prog 73 #[x.v] w fun e w' => e = .returned (.bool false) ∧ Below w.heap.size w w' := by
 go_enter Tryz.func73, Tryz.ntmps73
 go_wp2
 go_ret
 exact ⟨rfl, below_one _ _⟩
theorem may_c (x : Val) (w : World) (hs : x.s.size ≤ maxLen) : Calls Tryz.prog 73 #[x.v] w fun e w' => e = .returned (.bool (mayB x)) ∧ Below w.heap.size w w' := by
 unfold mayB
 cases h0 : x.k == 0
 · cases h1 : x.k == 1
   · cases h2 : x.k == 2
     · cases h3 : x.k == 3
       · exact may_other x w h0 h1 h2 h3
       · exact may_text x w h0 h1 h2 h3 hs
     · exact may_int x w h0 h1 h2
   · exact may_bool x w h0 h1
 · exact may_null x w h0
set_option maxHeartbeats 1000000 in
theorem rmay_low (x : Val) (w : World) (h : (x.k == 0) = true ∨ ((x.k == 0) = false ∧ (x.k == 1) = true)) :
 Calls Tryz.prog 83 #[x.v] w fun e w' => e = .returned (.bool (x.s.toList.isEmpty && decide (0 ≤ x.n) && decide (x.n ≤ x.k))) ∧ Below w.heap.size w w' := by
 rcases h with h | ⟨h0, h⟩
 all_goals
  cases hs : x.s.toList.isEmpty
  · go_enter Tryz.func83, Tryz.ntmps83
    go_wp2
    go_ret
    exact ⟨rfl, below_one _ _⟩
  · cases hn : decide (0 ≤ x.n)
    · go_enter Tryz.func83, Tryz.ntmps83
      go_wp2
      go_ret
      exact ⟨rfl, below_one _ _⟩
    · go_enter Tryz.func83, Tryz.ntmps83
      go_wp2
      go_ret
      exact ⟨rfl, below_one _ _⟩
set_option maxHeartbeats 1000000 in
theorem rmay_int (x : Val) (w : World) (h0 : (x.k == 0) = false) (h1 : (x.k == 1) = false) (h : (x.k == 2) = true) :
 Calls Tryz.prog 83 #[x.v] w fun e w' => e = .returned (.bool x.s.toList.isEmpty) ∧ Below w.heap.size w w' := by
 go_enter Tryz.func83, Tryz.ntmps83
 go_wp2
 go_ret
 exact ⟨rfl, below_one _ _⟩
set_option maxHeartbeats 1000000 in
theorem rmay_high (x : Val) (w : World) (h0 : (x.k == 0) = false) (h1 : (x.k == 1) = false) (h2 : (x.k == 2) = false) (hs : x.s.size ≤ maxLen) :
 Calls Tryz.prog 83 #[x.v] w fun e w' => e = .returned (.bool (x.k == 3 && x.n == 0 && decide (x.s.size ≤ 1000))) ∧ Below w.heap.size w w' := by
 unfold maxLen at hs
 cases h3 : x.k == 3
 · go_enter Tryz.func83, Tryz.ntmps83
   go_wp2
   go_ret
   exact ⟨rfl, below_one _ _⟩
 · cases hn : x.n == 0
   · go_enter Tryz.func83, Tryz.ntmps83
     go_wp2
     go_ret
     exact ⟨rfl, below_one _ _⟩
   · by_cases hz : x.s.size ≤ 1000
     · have hz' : decide (x.s.size ≤ 1000) = true := decide_eq_true hz
       have hz2 : decide ((x.s.size : Int) ≤ 1000) = true := decide_eq_true (by omega)
       go_enter Tryz.func83, Tryz.ntmps83
       go_wp2
       go_ret
       exact ⟨by rw [hz']; rfl, below_one _ _⟩
     · have hz' : decide (x.s.size ≤ 1000) = false := decide_eq_false hz
       have hz2 : decide ((x.s.size : Int) ≤ 1000) = false := decide_eq_false (by omega)
       go_enter Tryz.func83, Tryz.ntmps83
       go_wp2
       go_ret
       exact ⟨by rw [hz']; rfl, below_one _ _⟩
theorem rmay_c (x : Val) (w : World) (hs : x.s.size ≤ maxLen) : Calls Tryz.prog 83 #[x.v] w fun e w' => e = .returned (.bool (rmB x)) ∧ Below w.heap.size w w' := by
 unfold rmB
 cases h0 : x.k == 0
 · cases h1 : x.k == 1
   · simp only [Bool.or_false, Bool.false_eq_true, if_false]
     cases h2 : x.k == 2
     · simp only [Bool.false_eq_true, if_false]
       exact rmay_high x w h0 h1 h2 hs
     · simp only [if_true]
       exact rmay_int x w h0 h1 h2
   · simp only [Bool.or_true, if_true]
     exact rmay_low x w (.inr ⟨h0, h1⟩)
 · simp only [Bool.true_or, if_true]
   exact rmay_low x w (.inl h0)
end Go.Proofs.YtldaoepemofhlaaGreatDoor
namespace Go.Proofs
open Go.Shelf
def Tryz.lays156_ren : Go.Shelf.Ren := ⟨fun | 156 => 52 | 165 => 69 | 166 => 70 | 169 => 71 | 240 => 81 | 241 => 82 | 276 => 92 | 277 => 93 | n => n, fun | 31 => 85 | 9 => 9 | 3 => 3 | 4 => 4 | 0 => 0 | 20 => 20 | 72 => 106 | 76 => 109 | 70 => 103 | 37 => 104 | 75 => 108 | 127 => 129 | 164 => 138 | 5 => 5 | 80 => 111 | n => n, fun | n => n⟩
theorem Tryz.lays156 : Go.Proofs.Lays.n156 Tryz.prog Tryz.lays156_ren := {
 mixed := by kernel_rfl
 f156 := Tryz.func52.trans (congrArg some (by kernel_rfl))
 f165 := Tryz.func69.trans (congrArg some (by kernel_rfl))
 f166 := Tryz.func70.trans (congrArg some (by kernel_rfl))
 f169 := Tryz.func71.trans (congrArg some (by kernel_rfl))
 f240 := Tryz.func81.trans (congrArg some (by kernel_rfl))
 f241 := Tryz.func82.trans (congrArg some (by kernel_rfl))
 f276 := Tryz.func92.trans (congrArg some (by kernel_rfl))
 f277 := Tryz.func93.trans (congrArg some (by kernel_rfl))
 t0 := Tryz.underlying0
 a0 := Tryz.isAgg0
 z0 := Tryz.sizeOf0
 v0 := Tryz.zeroValue0
 t3 := Tryz.underlying3
 a3 := Tryz.isAgg3
 z3 := Tryz.sizeOf3
 v3 := Tryz.zeroValue3
 t4 := Tryz.underlying4
 a4 := Tryz.isAgg4
 z4 := Tryz.sizeOf4
 v4 := Tryz.zeroValue4
 t9 := Tryz.underlying9
 a9 := Tryz.isAgg9
 z9 := Tryz.sizeOf9
 v9 := Tryz.zeroValue9
 t20 := Tryz.underlying20
 a20 := Tryz.isAgg20
 z20 := Tryz.sizeOf20
 v20 := Tryz.zeroValue20
 t31 := Tryz.underlying85
 a31 := Tryz.isAgg85
 z31 := Tryz.sizeOf85
 v31 := Tryz.zeroValue85
 t37 := Tryz.underlying104
 a37 := Tryz.isAgg104
 z37 := Tryz.sizeOf104
 v37 := Tryz.zeroValue104
 t70 := Tryz.underlying103
 a70 := Tryz.isAgg103
 z70 := Tryz.sizeOf103
 v70 := Tryz.zeroValue103
 t72 := Tryz.underlying106
 a72 := Tryz.isAgg106
 z72 := Tryz.sizeOf106
 v72 := Tryz.zeroValue106
 t75 := Tryz.underlying108
 a75 := Tryz.isAgg108
 z75 := Tryz.sizeOf108
 v75 := Tryz.zeroValue108
 t76 := Tryz.underlying109
 a76 := Tryz.isAgg109
 z76 := Tryz.sizeOf109
 v76 := Tryz.zeroValue109
 t127 := Tryz.underlying129
 a127 := Tryz.isAgg129
 z127 := Tryz.sizeOf129
 v127 := Tryz.zeroValue129
 t164 := Tryz.underlying138
 a164 := Tryz.isAgg138
 z164 := Tryz.sizeOf138
 v164 := Tryz.zeroValue138 }
theorem Tryz.Builder_Extra_156 : Builder.Extra Tryz.prog Tryz.lays156_ren := {
 sizeBuilder := by kernel_rfl
 liesBuilder := by kernel_rfl
 t5 := Tryz.underlying5
 a5 := Tryz.isAgg5
 z5 := Tryz.sizeOf5
 v5 := Tryz.zeroValue5
 infoByte := by kernel_rfl
 cellsByte := by kernel_rfl
 sizeByte := by kernel_rfl
 neB5 := by decide }
open Go.RowKit in
theorem Tryz.strings_Join (bk o c : Nat) (xs : List ByteArray) (sep : ByteArray) (w : World) (hcells : ∀ (j : Nat) x, xs[j]? = some x → w.cell? ⟨bk, o + j, none⟩ = some (.string x)) (hbk : bk < w.heap.size) (hN : xs.length ≤ 140737488355328) (hcap : xs.length ≤ c) (hlen : (Lib.join (xs.map (·.data.toList)) sep.data.toList).length ≤ 140737488355328) :
 Calls Tryz.prog 52 #[.slice (some ⟨bk, o, none⟩) xs.length c, .string sep] w fun e w' => e = .returned (.string ⟨(Lib.join (xs.map (·.data.toList)) sep.data.toList).toArray⟩) ∧ Below w.heap.size w w' := Any.strings_Join Tryz.lays156 Tryz.Builder_Extra_156 bk o c xs sep w hcells hbk hN hcap hlen
def Tryz.lays213_ren : Go.Shelf.Ren := ⟨fun | 213 => 95 | 265 => 114 | n => n, fun | 9 => 9 | 3 => 3 | n => n, fun | n => n⟩
def Tryz.lays106_ren : Go.Shelf.Ren := ⟨fun | 106 => 85 | 213 => 95 | 265 => 114 | n => n, fun | 9 => 9 | 3 => 3 | n => n, fun | n => n⟩
theorem Tryz.lays106 : Go.Proofs.Lays.n106 Tryz.prog Tryz.lays106_ren := {
 mixed := by kernel_rfl
 f106 := Tryz.func85.trans (congrArg some (by kernel_rfl))
 f213 := Tryz.func95.trans (congrArg some (by kernel_rfl))
 f265 := Tryz.func114.trans (congrArg some (by kernel_rfl))
 t3 := Tryz.underlying3
 a3 := Tryz.isAgg3
 z3 := Tryz.sizeOf3
 v3 := Tryz.zeroValue3
 t9 := Tryz.underlying9
 a9 := Tryz.isAgg9
 z9 := Tryz.sizeOf9
 v9 := Tryz.zeroValue9 }
open Go.RowKit in
theorem Tryz.strings_Compare (a b : ByteArray) (w : World) :
 Calls Tryz.prog 85 #[.string a, .string b] w fun e w' => e = .returned (.int .i64 (Lib.compareBytes a.data.toList b.data.toList)) ∧ w' = w := Any.strings_Compare Tryz.lays106 a b w
def Tryz.lays215_ren : Go.Shelf.Ren := ⟨fun | 215 => 94 | n => n, fun | 3 => 3 | 4 => 4 | n => n, fun | n => n⟩
def Tryz.lays122_ren : Go.Shelf.Ren := ⟨fun | 122 => 84 | 215 => 94 | n => n, fun | 3 => 3 | 4 => 4 | n => n, fun | n => n⟩
theorem Tryz.lays122 : Go.Proofs.Lays.n122 Tryz.prog Tryz.lays122_ren := {
 mixed := by kernel_rfl
 f122 := Tryz.func84.trans (congrArg some (by kernel_rfl))
 f215 := Tryz.func94.trans (congrArg some (by kernel_rfl))
 t3 := Tryz.underlying3
 a3 := Tryz.isAgg3
 z3 := Tryz.sizeOf3
 v3 := Tryz.zeroValue3
 t4 := Tryz.underlying4
 a4 := Tryz.isAgg4
 z4 := Tryz.sizeOf4
 v4 := Tryz.zeroValue4 }
open Go.RowKit in
theorem Tryz.cmp_Compare_int (x y : Int) (w : World) :
 Calls Tryz.prog 84 #[.int .i64 x, .int .i64 y] w fun e w' => e = .returned (.int .i64 (Lib.compareInt x y)) ∧ w' = w := Any.cmp_Compare_int Tryz.lays122 x y w
def Tryz.laysM246_ren : Go.Shelf.Ren := ⟨fun | 246 => 88 | 283 => 106 | 284 => 107 | 285 => 108 | 286 => 109 | 129 => 105 | 317 => 120 | 318 => 121 | 319 => 122 | 320 => 123 | 337 => 129 | 338 => 130 | n => n, fun | 2 => 2 | 3 => 3 | 9 => 9 | 4 => 4 | 171 => 152 | 0 => 0 | 53 => 97 | 37 => 104 | 5 => 5 | 173 => 154 | 212 => 166 | 51 => 150 | 20 => 20 | 213 => 167 | 46 => 134 | 232 => 177 | 233 => 178 | n => n, fun | 17 => 1 | 18 => 4 | 19 => 5 | n => n⟩
def Tryz.laysM243_ren : Go.Shelf.Ren := ⟨fun | 243 => 79 | 246 => 88 | 283 => 106 | 284 => 107 | 285 => 108 | 286 => 109 | 129 => 105 | 317 => 120 | 318 => 121 | 319 => 122 | 320 => 123 | 337 => 129 | 338 => 130 | n => n, fun | 3 => 3 | 9 => 9 | 2 => 2 | 4 => 4 | 171 => 152 | 0 => 0 | 53 => 97 | 37 => 104 | 5 => 5 | 173 => 154 | 212 => 166 | 51 => 150 | 20 => 20 | 213 => 167 | 46 => 134 | 232 => 177 | 233 => 178 | n => n, fun | 17 => 1 | 18 => 4 | 19 => 5 | n => n⟩
def Tryz.laysM171_ren : Go.Shelf.Ren := ⟨fun | 171 => 67 | 243 => 79 | 246 => 88 | 283 => 106 | 284 => 107 | 285 => 108 | 286 => 109 | 129 => 105 | 317 => 120 | 318 => 121 | 319 => 122 | 320 => 123 | 337 => 129 | 338 => 130 | n => n, fun | 3 => 3 | 9 => 9 | 2 => 2 | 4 => 4 | 171 => 152 | 0 => 0 | 53 => 97 | 37 => 104 | 5 => 5 | 173 => 154 | 212 => 166 | 51 => 150 | 20 => 20 | 213 => 167 | 46 => 134 | 232 => 177 | 233 => 178 | n => n, fun | 17 => 1 | 18 => 4 | 19 => 5 | n => n⟩
theorem Tryz.laysM171 : Go.Proofs.LaysM.n171 Tryz.prog Tryz.laysM171_ren := {
 mixed := by kernel_rfl
 f129 := Tryz.func105.trans (congrArg some (by kernel_rfl))
 f171 := Tryz.func67.trans (congrArg some (by kernel_rfl))
 f243 := Tryz.func79.trans (congrArg some (by kernel_rfl))
 f246 := Tryz.func88.trans (congrArg some (by kernel_rfl))
 f283 := Tryz.func106.trans (congrArg some (by kernel_rfl))
 f284 := Tryz.func107.trans (congrArg some (by kernel_rfl))
 f285 := Tryz.func108.trans (congrArg some (by kernel_rfl))
 f286 := Tryz.func109.trans (congrArg some (by kernel_rfl))
 f317 := Tryz.func120.trans (congrArg some (by kernel_rfl))
 f318 := Tryz.func121.trans (congrArg some (by kernel_rfl))
 f319 := Tryz.func122.trans (congrArg some (by kernel_rfl))
 f320 := Tryz.func123.trans (congrArg some (by kernel_rfl))
 f337 := Tryz.func129.trans (congrArg some (by kernel_rfl))
 f338 := Tryz.func130.trans (congrArg some (by kernel_rfl))
 t0 := Tryz.underlying0
 a0 := Tryz.isAgg0
 z0 := Tryz.sizeOf0
 v0 := Tryz.zeroValue0
 t2 := Tryz.underlying2
 a2 := Tryz.isAgg2
 z2 := Tryz.sizeOf2
 v2 := Tryz.zeroValue2
 t3 := Tryz.underlying3
 a3 := Tryz.isAgg3
 z3 := Tryz.sizeOf3
 v3 := Tryz.zeroValue3
 t4 := Tryz.underlying4
 a4 := Tryz.isAgg4
 z4 := Tryz.sizeOf4
 v4 := Tryz.zeroValue4
 t5 := Tryz.underlying5
 a5 := Tryz.isAgg5
 z5 := Tryz.sizeOf5
 v5 := Tryz.zeroValue5
 t9 := Tryz.underlying9
 a9 := Tryz.isAgg9
 z9 := Tryz.sizeOf9
 v9 := Tryz.zeroValue9
 t20 := Tryz.underlying20
 a20 := Tryz.isAgg20
 z20 := Tryz.sizeOf20
 v20 := Tryz.zeroValue20
 t37 := Tryz.underlying104
 a37 := Tryz.isAgg104
 z37 := Tryz.sizeOf104
 v37 := Tryz.zeroValue104
 t46 := Tryz.underlying134
 a46 := Tryz.isAgg134
 z46 := Tryz.sizeOf134
 v46 := Tryz.zeroValue134
 t51 := Tryz.underlying150
 a51 := Tryz.isAgg150
 z51 := Tryz.sizeOf150
 v51 := Tryz.zeroValue150
 t53 := Tryz.underlying97
 a53 := Tryz.isAgg97
 z53 := Tryz.sizeOf97
 v53 := Tryz.zeroValue97
 t171 := Tryz.underlying152
 a171 := Tryz.isAgg152
 z171 := Tryz.sizeOf152
 v171 := Tryz.zeroValue152
 t173 := Tryz.underlying154
 a173 := Tryz.isAgg154
 z173 := Tryz.sizeOf154
 v173 := Tryz.zeroValue154
 t212 := Tryz.underlying166
 a212 := Tryz.isAgg166
 z212 := Tryz.sizeOf166
 v212 := Tryz.zeroValue166
 t213 := Tryz.underlying167
 a213 := Tryz.isAgg167
 z213 := Tryz.sizeOf167
 t232 := Tryz.underlying177
 a232 := Tryz.isAgg177
 z232 := Tryz.sizeOf177
 v232 := Tryz.zeroValue177
 t233 := Tryz.underlying178
 a233 := Tryz.isAgg178
 z233 := Tryz.sizeOf178
 v233 := Tryz.zeroValue178
 g17 := by kernel_rfl
 g18 := by kernel_rfl
 g19 := by kernel_rfl
 i0 := by kernel_rfl
 i2 := by kernel_rfl
 i3 := by kernel_rfl
 i4 := by kernel_rfl
 i5 := by kernel_rfl
 i9 := by kernel_rfl
 i20 := by kernel_rfl
 i37 := by kernel_rfl
 i46 := by kernel_rfl
 i51 := by kernel_rfl
 i53 := by kernel_rfl
 i171 := by kernel_rfl
 i173 := by kernel_rfl
 i212 := by kernel_rfl
 i232 := by kernel_rfl
 i233 := by kernel_rfl
 m17 := by kernel_rfl
 m18 := by kernel_rfl
 m19 := by kernel_rfl }
open Go.RowKit Go.Sort Go.Lib in
theorem Tryz.strconv_Itoa (n : Int) (h0 : -9223372036854775808 ≤ n) (h1 : n ≤ 9223372036854775807) (w : World) (htab : Lib.TabIs Tryz.prog w "internal/strconv.uint64pow10" .u64 Lib.pow10Tab) :
 Calls Tryz.prog 67 #[.int .i64 n] w fun e w' => e = .returned (.string ⟨(Lib.itoa n).toArray⟩) ∧ ∃ k os, w' = grow (w.drewN k) os := Any.strconv_Itoa Tryz.laysM171 n h0 h1 w htab
def Tryz.lays154_ren : Go.Shelf.Ren := ⟨fun | 154 => 80 | 138 => 89 | 165 => 69 | 143 => 90 | 166 => 70 | 197 => 91 | 169 => 71 | 195 => 110 | 218 => 111 | 240 => 81 | 241 => 82 | 219 => 112 | 260 => 113 | 276 => 92 | 277 => 93 | 217 => 124 | 225 => 125 | 224 => 126 | 267 => 127 | 266 => 131 | 314 => 132 | n => n, fun | 9 => 9 | 3 => 3 | 4 => 4 | 72 => 106 | 0 => 0 | 76 => 109 | 105 => 136 | 21 => 21 | 5 => 5 | 70 => 103 | 20 => 20 | 37 => 104 | 75 => 108 | 127 => 129 | 164 => 138 | 46 => 134 | 119 => 168 | 139 => 171 | 138 => 170 | 146 => 175 | 51 => 150 | 80 => 111 | n => n, fun | 1 => 0 | 3 => 2 | 4 => 3 | n => n⟩
def Tryz.lays155_ren : Go.Shelf.Ren := ⟨fun | 155 => 68 | 154 => 80 | 138 => 89 | 165 => 69 | 143 => 90 | 166 => 70 | 197 => 91 | 169 => 71 | 195 => 110 | 218 => 111 | 240 => 81 | 241 => 82 | 219 => 112 | 260 => 113 | 276 => 92 | 277 => 93 | 217 => 124 | 225 => 125 | 224 => 126 | 267 => 127 | 266 => 131 | 314 => 132 | n => n, fun | 9 => 9 | 3 => 3 | 4 => 4 | 72 => 106 | 0 => 0 | 76 => 109 | 105 => 136 | 21 => 21 | 5 => 5 | 70 => 103 | 20 => 20 | 37 => 104 | 75 => 108 | 127 => 129 | 164 => 138 | 46 => 134 | 119 => 168 | 139 => 171 | 138 => 170 | 146 => 175 | 51 => 150 | 80 => 111 | n => n, fun | 1 => 0 | 3 => 2 | 4 => 3 | n => n⟩
theorem Tryz.lays155 : Go.Proofs.Lays.n155 Tryz.prog Tryz.lays155_ren := {
 mixed := by kernel_rfl
 f138 := Tryz.func89.trans (congrArg some (by kernel_rfl))
 f143 := Tryz.func90.trans (congrArg some (by kernel_rfl))
 f154 := Tryz.func80.trans (congrArg some (by kernel_rfl))
 f155 := Tryz.func68.trans (congrArg some (by kernel_rfl))
 f165 := Tryz.func69.trans (congrArg some (by kernel_rfl))
 f166 := Tryz.func70.trans (congrArg some (by kernel_rfl))
 f169 := Tryz.func71.trans (congrArg some (by kernel_rfl))
 f195 := Tryz.func110.trans (congrArg some (by kernel_rfl))
 f197 := Tryz.func91.trans (congrArg some (by kernel_rfl))
 f217 := Tryz.func124.trans (congrArg some (by kernel_rfl))
 f218 := Tryz.func111.trans (congrArg some (by kernel_rfl))
 f219 := Tryz.func112.trans (congrArg some (by kernel_rfl))
 f224 := Tryz.func126.trans (congrArg some (by kernel_rfl))
 f225 := Tryz.func125.trans (congrArg some (by kernel_rfl))
 f240 := Tryz.func81.trans (congrArg some (by kernel_rfl))
 f241 := Tryz.func82.trans (congrArg some (by kernel_rfl))
 f260 := Tryz.func113.trans (congrArg some (by kernel_rfl))
 f266 := Tryz.func131.trans (congrArg some (by kernel_rfl))
 f267 := Tryz.func127.trans (congrArg some (by kernel_rfl))
 f276 := Tryz.func92.trans (congrArg some (by kernel_rfl))
 f277 := Tryz.func93.trans (congrArg some (by kernel_rfl))
 f314 := Tryz.func132.trans (congrArg some (by kernel_rfl))
 t0 := Tryz.underlying0
 a0 := Tryz.isAgg0
 z0 := Tryz.sizeOf0
 v0 := Tryz.zeroValue0
 t3 := Tryz.underlying3
 a3 := Tryz.isAgg3
 z3 := Tryz.sizeOf3
 v3 := Tryz.zeroValue3
 t4 := Tryz.underlying4
 a4 := Tryz.isAgg4
 z4 := Tryz.sizeOf4
 v4 := Tryz.zeroValue4
 t5 := Tryz.underlying5
 a5 := Tryz.isAgg5
 z5 := Tryz.sizeOf5
 v5 := Tryz.zeroValue5
 t9 := Tryz.underlying9
 a9 := Tryz.isAgg9
 z9 := Tryz.sizeOf9
 v9 := Tryz.zeroValue9
 t20 := Tryz.underlying20
 a20 := Tryz.isAgg20
 z20 := Tryz.sizeOf20
 v20 := Tryz.zeroValue20
 t21 := Tryz.underlying21
 a21 := Tryz.isAgg21
 z21 := Tryz.sizeOf21
 v21 := Tryz.zeroValue21
 t37 := Tryz.underlying104
 a37 := Tryz.isAgg104
 z37 := Tryz.sizeOf104
 v37 := Tryz.zeroValue104
 t46 := Tryz.underlying134
 a46 := Tryz.isAgg134
 z46 := Tryz.sizeOf134
 v46 := Tryz.zeroValue134
 t51 := Tryz.underlying150
 a51 := Tryz.isAgg150
 z51 := Tryz.sizeOf150
 v51 := Tryz.zeroValue150
 t70 := Tryz.underlying103
 a70 := Tryz.isAgg103
 z70 := Tryz.sizeOf103
 v70 := Tryz.zeroValue103
 t72 := Tryz.underlying106
 a72 := Tryz.isAgg106
 z72 := Tryz.sizeOf106
 v72 := Tryz.zeroValue106
 t75 := Tryz.underlying108
 a75 := Tryz.isAgg108
 z75 := Tryz.sizeOf108
 v75 := Tryz.zeroValue108
 t76 := Tryz.underlying109
 a76 := Tryz.isAgg109
 z76 := Tryz.sizeOf109
 v76 := Tryz.zeroValue109
 t105 := Tryz.underlying136
 a105 := Tryz.isAgg136
 z105 := Tryz.sizeOf136
 v105 := Tryz.zeroValue136
 t119 := Tryz.underlying168
 a119 := Tryz.isAgg168
 z119 := Tryz.sizeOf168
 t127 := Tryz.underlying129
 a127 := Tryz.isAgg129
 z127 := Tryz.sizeOf129
 v127 := Tryz.zeroValue129
 t138 := Tryz.underlying170
 a138 := Tryz.isAgg170
 z138 := Tryz.sizeOf170
 v138 := Tryz.zeroValue170
 t139 := Tryz.underlying171
 a139 := Tryz.isAgg171
 z139 := Tryz.sizeOf171
 v139 := Tryz.zeroValue171
 t146 := Tryz.underlying175
 a146 := Tryz.isAgg175
 z146 := Tryz.sizeOf175
 v146 := Tryz.zeroValue175
 t164 := Tryz.underlying138
 a164 := Tryz.isAgg138
 z164 := Tryz.sizeOf138
 v164 := Tryz.zeroValue138
 g1 := by kernel_rfl
 g3 := by kernel_rfl
 g4 := by kernel_rfl }
theorem Tryz.Builder_Extra_155 : Builder.Extra Tryz.prog Tryz.lays155_ren := {
 sizeBuilder := by kernel_rfl
 liesBuilder := by kernel_rfl
 t5 := Tryz.underlying5
 a5 := Tryz.isAgg5
 z5 := Tryz.sizeOf5
 v5 := Tryz.zeroValue5
 infoByte := by kernel_rfl
 cellsByte := by kernel_rfl
 sizeByte := by kernel_rfl
 neB5 := by decide }
open Go.RowKit Go.Lib in
theorem Tryz.strings_ReplaceAll (s old new : ByteArray) (m : Int) (w : World) (hs : s.size < 4294967281) (hm : w.cell? ⟨0, 0, none⟩ = some (.int .i64 m)) (h1 : 1 ≤ old.size) (hlen : s.size + Lib.countB s old * new.size ≤ 140737488355328) :
 Calls Tryz.prog 68 #[.string s, .string old, .string new] w fun e w' =>
  e = .returned (.string ⟨(Lib.replaceAll s.data.toList old.data.toList new.data.toList).toArray⟩) ∧ Below w.heap.size w w' := Any.strings_ReplaceAll Tryz.lays155 Tryz.Builder_Extra_155 s old new m w hs hm h1 hlen
def Tryz.laysM155_ren : Go.Shelf.Ren := ⟨fun | 155 => 68 | 154 => 80 | 138 => 89 | 165 => 69 | 143 => 90 | 166 => 70 | 197 => 91 | 169 => 71 | 195 => 110 | 218 => 111 | 240 => 81 | 241 => 82 | 219 => 112 | 260 => 113 | 276 => 92 | 277 => 93 | 217 => 124 | 225 => 125 | 224 => 126 | 267 => 127 | 266 => 131 | 314 => 132 | n => n, fun | 9 => 9 | 3 => 3 | 4 => 4 | 72 => 106 | 0 => 0 | 76 => 109 | 105 => 136 | 21 => 21 | 5 => 5 | 70 => 103 | 20 => 20 | 37 => 104 | 75 => 108 | 127 => 129 | 164 => 138 | 46 => 134 | 119 => 168 | 139 => 171 | 138 => 170 | 146 => 175 | 51 => 150 | 80 => 111 | n => n, fun | 1 => 0 | 3 => 2 | 4 => 3 | n => n⟩
theorem Tryz.laysM155 : Go.Proofs.LaysM.n155 Tryz.prog Tryz.laysM155_ren := {
 mixed := by kernel_rfl
 f138 := Tryz.func89.trans (congrArg some (by kernel_rfl))
 f143 := Tryz.func90.trans (congrArg some (by kernel_rfl))
 f154 := Tryz.func80.trans (congrArg some (by kernel_rfl))
 f155 := Tryz.func68.trans (congrArg some (by kernel_rfl))
 f165 := Tryz.func69.trans (congrArg some (by kernel_rfl))
 f166 := Tryz.func70.trans (congrArg some (by kernel_rfl))
 f169 := Tryz.func71.trans (congrArg some (by kernel_rfl))
 f195 := Tryz.func110.trans (congrArg some (by kernel_rfl))
 f197 := Tryz.func91.trans (congrArg some (by kernel_rfl))
 f217 := Tryz.func124.trans (congrArg some (by kernel_rfl))
 f218 := Tryz.func111.trans (congrArg some (by kernel_rfl))
 f219 := Tryz.func112.trans (congrArg some (by kernel_rfl))
 f224 := Tryz.func126.trans (congrArg some (by kernel_rfl))
 f225 := Tryz.func125.trans (congrArg some (by kernel_rfl))
 f240 := Tryz.func81.trans (congrArg some (by kernel_rfl))
 f241 := Tryz.func82.trans (congrArg some (by kernel_rfl))
 f260 := Tryz.func113.trans (congrArg some (by kernel_rfl))
 f266 := Tryz.func131.trans (congrArg some (by kernel_rfl))
 f267 := Tryz.func127.trans (congrArg some (by kernel_rfl))
 f276 := Tryz.func92.trans (congrArg some (by kernel_rfl))
 f277 := Tryz.func93.trans (congrArg some (by kernel_rfl))
 f314 := Tryz.func132.trans (congrArg some (by kernel_rfl))
 t0 := Tryz.underlying0
 a0 := Tryz.isAgg0
 z0 := Tryz.sizeOf0
 v0 := Tryz.zeroValue0
 t3 := Tryz.underlying3
 a3 := Tryz.isAgg3
 z3 := Tryz.sizeOf3
 v3 := Tryz.zeroValue3
 t4 := Tryz.underlying4
 a4 := Tryz.isAgg4
 z4 := Tryz.sizeOf4
 v4 := Tryz.zeroValue4
 t5 := Tryz.underlying5
 a5 := Tryz.isAgg5
 z5 := Tryz.sizeOf5
 v5 := Tryz.zeroValue5
 t9 := Tryz.underlying9
 a9 := Tryz.isAgg9
 z9 := Tryz.sizeOf9
 v9 := Tryz.zeroValue9
 t20 := Tryz.underlying20
 a20 := Tryz.isAgg20
 z20 := Tryz.sizeOf20
 v20 := Tryz.zeroValue20
 t21 := Tryz.underlying21
 a21 := Tryz.isAgg21
 z21 := Tryz.sizeOf21
 v21 := Tryz.zeroValue21
 t37 := Tryz.underlying104
 a37 := Tryz.isAgg104
 z37 := Tryz.sizeOf104
 v37 := Tryz.zeroValue104
 t46 := Tryz.underlying134
 a46 := Tryz.isAgg134
 z46 := Tryz.sizeOf134
 v46 := Tryz.zeroValue134
 t51 := Tryz.underlying150
 a51 := Tryz.isAgg150
 z51 := Tryz.sizeOf150
 v51 := Tryz.zeroValue150
 t70 := Tryz.underlying103
 a70 := Tryz.isAgg103
 z70 := Tryz.sizeOf103
 v70 := Tryz.zeroValue103
 t72 := Tryz.underlying106
 a72 := Tryz.isAgg106
 z72 := Tryz.sizeOf106
 v72 := Tryz.zeroValue106
 t75 := Tryz.underlying108
 a75 := Tryz.isAgg108
 z75 := Tryz.sizeOf108
 v75 := Tryz.zeroValue108
 t76 := Tryz.underlying109
 a76 := Tryz.isAgg109
 z76 := Tryz.sizeOf109
 v76 := Tryz.zeroValue109
 t105 := Tryz.underlying136
 a105 := Tryz.isAgg136
 z105 := Tryz.sizeOf136
 v105 := Tryz.zeroValue136
 t119 := Tryz.underlying168
 a119 := Tryz.isAgg168
 z119 := Tryz.sizeOf168
 t127 := Tryz.underlying129
 a127 := Tryz.isAgg129
 z127 := Tryz.sizeOf129
 v127 := Tryz.zeroValue129
 t138 := Tryz.underlying170
 a138 := Tryz.isAgg170
 z138 := Tryz.sizeOf170
 v138 := Tryz.zeroValue170
 t139 := Tryz.underlying171
 a139 := Tryz.isAgg171
 z139 := Tryz.sizeOf171
 v139 := Tryz.zeroValue171
 t146 := Tryz.underlying175
 a146 := Tryz.isAgg175
 z146 := Tryz.sizeOf175
 v146 := Tryz.zeroValue175
 t164 := Tryz.underlying138
 a164 := Tryz.isAgg138
 z164 := Tryz.sizeOf138
 v164 := Tryz.zeroValue138
 g1 := by kernel_rfl
 g3 := by kernel_rfl
 g4 := by kernel_rfl
 t80 := Tryz.underlying111
 a80 := Tryz.isAgg111
 z80 := Tryz.sizeOf111
 v80 := Tryz.zeroValue111
 i0 := by kernel_rfl
 i3 := by kernel_rfl
 i4 := by kernel_rfl
 i5 := by kernel_rfl
 i9 := by kernel_rfl
 i20 := by kernel_rfl
 i21 := by kernel_rfl
 i37 := by kernel_rfl
 i46 := by kernel_rfl
 i51 := by kernel_rfl
 i70 := by kernel_rfl
 i72 := by kernel_rfl
 i75 := by kernel_rfl
 i76 := by kernel_rfl
 i80 := by kernel_rfl
 i105 := by kernel_rfl
 i127 := by kernel_rfl
 i138 := by kernel_rfl
 i139 := by kernel_rfl
 i146 := by kernel_rfl
 i164 := by kernel_rfl
 m1 := by kernel_rfl
 s1_3 := fun w h => Go.Proofs.cell_of_shapedOpen_int (zero := #[.int .i64 0]) (t := 3) h (of_decide_eq_true (by kernel_rfl)) (by kernel_rfl) rfl (by kernel_rfl) (by kernel_rfl) Tryz.underlying3
 m3 := by kernel_rfl
 m4 := by kernel_rfl }
end Go.Proofs
namespace Go.Proofs.YtldaoepemofhlaaGreatDoor
open Go Go.RowKit
def cmpV (x y : Val) : Int := if x.k != y.k then Lib.compareInt x.k y.k else if x.n != y.n then Lib.compareInt x.n y.n else Lib.compareBytes x.s.data.toList y.s.data.toList
set_option maxHeartbeats 400000 in
theorem compare_c (x y : Val) (w : World) : Calls Tryz.prog 75 #[x.v, y.v] w fun e w' => e = .returned (.int .i64 (cmpV x y)) ∧ Below w.heap.size w w' := by
 cases h1 : x.k != y.k
 · cases h2 : x.n != y.n
   · have e : cmpV x y = Lib.compareBytes x.s.data.toList y.s.data.toList := by simp [cmpV, h1, h2]
     rw [e]
     clear e
     go_enter Tryz.func75, Tryz.ntmps75
     go_wp2_with fail
     refine (Tryz.strings_Compare _ _ _).mono ?_
     rintro e w1 ⟨rfl, rfl⟩
     go_wp2
     go_ret
     exact ⟨rfl, below_two _ _ _⟩
   · have e : cmpV x y = Lib.compareInt x.n y.n := by simp [cmpV, h1, h2]
     rw [e]
     clear e
     go_enter Tryz.func75, Tryz.ntmps75
     go_wp2_with fail
     refine (Tryz.cmp_Compare_int _ _ _).mono ?_
     rintro e w1 ⟨rfl, rfl⟩
     go_wp2
     go_ret
     exact ⟨rfl, below_two _ _ _⟩
 · have e : cmpV x y = Lib.compareInt x.k y.k := by simp [cmpV, h1]
   rw [e]
   clear e
   go_enter Tryz.func75, Tryz.ntmps75
   go_wp2_with fail
   refine (Tryz.cmp_Compare_int _ _ _).mono ?_
   rintro e w1 ⟨rfl, rfl⟩
   go_wp2
   go_ret
   exact ⟨rfl, below_two _ _ _⟩
theorem bl_eq : ∀ x y : List UInt8, Lib.compareBytes x y = if Op.bytesLess x y then -1 else if (Op.bytesLess x y || x == y) then 0 else 1
 | [], [] => rfl
 | [], _ :: _ => rfl
 | _ :: _, [] => rfl
 | a :: x, b :: y => by
   rw [Lib.compareBytes, Op.bytesLess, bl_eq x y]
   by_cases h1 : a < b
   · simp [h1]
   · by_cases h2 : b < a
     · have hne : a ≠ b := by rintro rfl; exact h1 h2
       have e : (a == b) = false := by simpa using hne
       simp [h1, h2, e]
     · have heq : a = b := by rw [UInt8.lt_iff_toNat_lt] at h1 h2; exact UInt8.toNat_inj.1 (by omega)
       subst heq
       simp [h1]
set_option maxHeartbeats 400000 in
theorem rcompare_k (x y : Val) (w : World) (h1 : (x.k != y.k) = true) : Calls Tryz.prog 19 #[x.v, y.v] w fun e w' => e = .returned (.int .i64 (Lib.compareInt x.k y.k)) ∧ Below w.heap.size w w' := by
 cases h : decide (x.k < y.k)
 · have e : Lib.compareInt x.k y.k = 1 := by
    have := of_decide_eq_false h
    have hne : x.k ≠ y.k := by simpa using h1
    unfold Lib.compareInt
    rw [if_neg this, if_pos (by omega)]
   rw [e]
   clear e
   go_enter Tryz.func19, Tryz.ntmps19
   go_wp2
   go_ret
   exact ⟨rfl, below_two _ _ _⟩
 · have e : Lib.compareInt x.k y.k = -1 := by
    unfold Lib.compareInt
    rw [if_pos (of_decide_eq_true h)]
   rw [e]
   clear e
   go_enter Tryz.func19, Tryz.ntmps19
   go_wp2
   go_ret
   exact ⟨rfl, below_two _ _ _⟩
set_option maxHeartbeats 400000 in
theorem rcompare_n (x y : Val) (w : World) (h0 : (x.k != y.k) = false) (h1 : (x.n != y.n) = true) : Calls Tryz.prog 19 #[x.v, y.v] w fun e w' => e = .returned (.int .i64 (Lib.compareInt x.n y.n)) ∧ Below w.heap.size w w' := by
 cases h : decide (x.n < y.n)
 · have e : Lib.compareInt x.n y.n = 1 := by
    have := of_decide_eq_false h
    have hne : x.n ≠ y.n := by simpa using h1
    unfold Lib.compareInt
    rw [if_neg this, if_pos (by omega)]
   rw [e]
   clear e
   go_enter Tryz.func19, Tryz.ntmps19
   go_wp2
   go_ret
   exact ⟨rfl, below_two _ _ _⟩
 · have e : Lib.compareInt x.n y.n = -1 := by
    unfold Lib.compareInt
    rw [if_pos (of_decide_eq_true h)]
   rw [e]
   clear e
   go_enter Tryz.func19, Tryz.ntmps19
   go_wp2
   go_ret
   exact ⟨rfl, below_two _ _ _⟩
set_option maxHeartbeats 400000 in
theorem rcompare_s (x y : Val) (w : World) (h0 : (x.k != y.k) = false) (h1 : (x.n != y.n) = false) : Calls Tryz.prog 19 #[x.v, y.v] w fun e w' => e = .returned (.int .i64 (Lib.compareBytes x.s.data.toList y.s.data.toList)) ∧ Below w.heap.size w w' := by
 have e := bl_eq x.s.toList y.s.toList
 rw [ByteArray.toList_eq, ByteArray.toList_eq] at e
 rw [e]
 clear e
 rw [← ByteArray.toList_eq, ← ByteArray.toList_eq]
 cases h : Op.bytesLess x.s.toList y.s.toList
 · cases h2 : x.s.toList == y.s.toList
   · go_enter Tryz.func19, Tryz.ntmps19
     go_wp2
     go_ret
     exact ⟨rfl, below_two _ _ _⟩
   · go_enter Tryz.func19, Tryz.ntmps19
     go_wp2
     go_ret
     exact ⟨rfl, below_two _ _ _⟩
 · go_enter Tryz.func19, Tryz.ntmps19
   go_wp2
   go_ret
   exact ⟨rfl, below_two _ _ _⟩
theorem rcompare_c (x y : Val) (w : World) : Calls Tryz.prog 19 #[x.v, y.v] w fun e w' => e = .returned (.int .i64 (cmpV x y)) ∧ Below w.heap.size w w' := by
 unfold cmpV
 cases h1 : x.k != y.k
 · cases h2 : x.n != y.n
   · exact rcompare_s x y w h1 h2
   · exact rcompare_n x y w h1 h2
 · exact rcompare_k x y w h1
end Go.Proofs.YtldaoepemofhlaaGreatDoor
namespace Go.Proofs.YtldaoepemofhlaaGreatDoor
open Go Go.RowKit
def cmpL : List Val → List Val → Int
 | [], [] => 0
 | [], _ :: _ => -1
 | _ :: _, [] => 1
 | x :: a, y :: b => if cmpV x y != 0 then cmpV x y else cmpL a b
theorem cmpL_nil_right (a : List Val) : cmpL a [] = if a.length = 0 then 0 else 1 := by cases a <;> simp [cmpL]
theorem cmpL_nil_left (a : List Val) : cmpL [] a = if a.length = 0 then 0 else -1 := by cases a <;> simp [cmpL]
theorem cmpL_drop (a b : List Val) (k : Nat) (x y : Val) (hx : a[k]? = some x) (hy : b[k]? = some y) :
 cmpL (a.drop k) (b.drop k) = if cmpV x y != 0 then cmpV x y else cmpL (a.drop (k + 1)) (b.drop (k + 1)) := by
 have h1 := List.drop_eq_getElem_cons (List.getElem?_eq_some_iff.1 hx).1
 have h2 := List.drop_eq_getElem_cons (List.getElem?_eq_some_iff.1 hy).1
 rw [(List.getElem?_eq_some_iff.1 hx).2] at h1
 rw [(List.getElem?_eq_some_iff.1 hy).2] at h2
 rw [h1, h2, cmpL]
theorem Sl.at {w : World} {A : Option Addr} {xs : List Val} (h : Sl w A xs) {k : Nat} (hk : k < xs.length) :
 ∃ b off x, A = some ⟨b, off, none⟩ ∧ b < w.heap.size ∧ xs[k]? = some x ∧ w.cell? ⟨b, off + k * 3, none⟩ = some (.int .i64 x.k) ∧ w.cell? ⟨b, off + k * 3 + 1, none⟩ = some (.int .i64 x.n) ∧ w.cell? ⟨b, off + k * 3 + 2, none⟩ = some (.string x.s) := by
 rcases h with rfl | ⟨b, off, hA, hlt, h⟩
 · simp at hk
 · have := h k xs[k] (List.getElem?_eq_getElem hk)
   exact ⟨b, off, xs[k], hA, hlt, List.getElem?_eq_getElem hk, this⟩
set_option maxHeartbeats 2000000 in
theorem cmpFunc_c (A B : Option Addr) (n m c d : Nat) (xs ys : List Val) (w : World) (hn : xs.length = n) (hm : ys.length = m) (hn1 : n ≤ maxLen) (hm1 : m ≤ maxLen) (hs : Sl w A xs) (ht : Sl w B ys) :
 Calls Tryz.prog 74 #[.slice A n c, .slice B m d, .func (.func 75) #[] #[]] w fun e w' => e = .returned (.int .i64 (cmpL xs ys)) ∧ Below w.heap.size w w' := by
 unfold maxLen at hn1 hm1
 have Hn := Lib.hid hn
 have Hm := Lib.hid hm
 have Hs := Lib.hid hs
 have Ht := Lib.hid ht
 clear hn hm hs ht
 go_enter Tryz.func74, Tryz.ntmps74
 go_wp2_with fail
 go_loopw [13] (fun i wr => ∃ k : Nat, k ≤ n ∧ k ≤ m ∧ i = .int .i64 k ∧ Below w.heap.size w wr ∧ Hid (cmpL (xs.drop k) (ys.drop k) = cmpL xs ys)) (fun i _ => n - (intOf i).toNat)
 case atStart => exact ⟨0, Nat.zero_le _, Nat.zero_le _, rfl, Below.refl _ _, rfl⟩
 case round =>
  obtain ⟨k, hk, hkm, rfl, hb, hinv⟩ := hrel
  by_cases hlt : k < n
  · obtain ⟨b, off, x, rfl, hblt, hx, c0, c1, c2⟩ := Hs.out.at (by rw [Hn.out]; exact hlt)
    have d0 := (hb.cell (p := ⟨b, off + k * 3, none⟩) hblt).trans c0
    have d1 := (hb.cell (p := ⟨b, off + k * 3 + 1, none⟩) hblt).trans c1
    have d2 := (hb.cell (p := ⟨b, off + k * 3 + 2, none⟩) hblt).trans c2
    have Hx := Lib.hid hx
    clear c0 c1 c2 hx
    have l1 := hb.size
    by_cases hlt2 : k < m
    · obtain ⟨b', off', y, rfl, hblt', hy, c0, c1, c2⟩ := Ht.out.at (by rw [Hm.out]; exact hlt2)
      have d3 := (hb.cell (p := ⟨b', off' + k * 3, none⟩) hblt').trans c0
      have d4 := (hb.cell (p := ⟨b', off' + k * 3 + 1, none⟩) hblt').trans c1
      have d5 := (hb.cell (p := ⟨b', off' + k * 3 + 2, none⟩) hblt').trans c2
      have Hy := Lib.hid hy
      clear c0 c1 c2 hy
      have l2 : b' < wr.heap.size := by omega
      have hstep := cmpL_drop xs ys k x y Hx.out Hy.out
      have Hst := Lib.hid (hstep.symm.trans hinv.out)
      clear hstep hinv
      cases hc : cmpV x y != 0
      · have Hst' : Hid (cmpL (xs.drop (k + 1)) (ys.drop (k + 1)) = cmpL xs ys) := by have := Hst.out; rw [hc] at this; exact this
        clear Hst
        go_wp2_with fail
        refine (compare_c x y _).mono ?_
        rintro e w1 ⟨rfl, hb1⟩
        go_wp2
        go_roundw
        case rel => exact ⟨k + 1, by omega, by omega, by go_num, (hb.alloc hb.size _).trans ((((below_one _ _).trans (hb1.mono (by simp)))).mono (by simp; omega)), Hst'.out⟩
        case measure => simp [intOf]; omega
      · have Hst' : Hid (cmpV x y = cmpL xs ys) := by have := Hst.out; rw [hc] at this; exact this
        clear Hst
        go_wp2_with fail
        refine (compare_c x y _).mono ?_
        rintro e w1 ⟨rfl, hb1⟩
        go_wp2
        go_ret
        exact ⟨congrArg (fun z => Ending.returned (Value.int .i64 z)) Hst'.out, (hb.alloc hb.size _).trans ((((below_one _ _).trans (hb1.mono (by simp)))).mono (by simp; omega))⟩
    · obtain rfl : k = m := by omega
      have Hst : Hid (1 = cmpL xs ys) := by
       have := hinv.out
       rw [show ys.drop k = [] from List.drop_eq_nil_of_le (by rw [Hm.out]; omega), cmpL_nil_right, if_neg (by rw [List.length_drop, Hn.out]; omega)] at this
       exact this
      clear hinv
      go_wp2
      go_ret
      exact ⟨congrArg (fun z => Ending.returned (Value.int .i64 z)) Hst.out, hb.alloc hb.size _⟩
  · obtain rfl : k = n := by omega
    by_cases hlt2 : k < m
    · have Hst : Hid (-1 = cmpL xs ys) := by
       have := hinv.out
       rw [show xs.drop k = [] from List.drop_eq_nil_of_le (by rw [Hn.out]; omega), cmpL_nil_left, if_neg (by rw [List.length_drop, Hm.out]; omega)] at this
       exact this
      clear hinv
      go_wp2
      go_ret
      exact ⟨congrArg (fun z => Ending.returned (Value.int .i64 z)) Hst.out, hb⟩
    · have Hst : Hid (0 = cmpL xs ys) := by
       have := hinv.out
       rw [show xs.drop k = [] from List.drop_eq_nil_of_le (by rw [Hn.out]; omega), cmpL_nil_left, if_pos (by rw [List.length_drop, Hm.out]; omega)] at this
       exact this
      clear hinv
      go_wp2
      go_ret
      exact ⟨congrArg (fun z => Ending.returned (Value.int .i64 z)) Hst.out, hb⟩
set_option maxHeartbeats 400000 in
theorem compareL_c (A B : Option Addr) (n m c d : Nat) (xs ys : List Val) (w : World) (hn : xs.length = n) (hm : ys.length = m) (hn1 : n ≤ maxLen) (hm1 : m ≤ maxLen) (hs : Sl w A xs) (ht : Sl w B ys) :
 Calls Tryz.prog 62 #[.slice A n c, .slice B m d] w fun e w' => e = .returned (.int .i64 (cmpL xs ys)) ∧ Below w.heap.size w w' := by
 have Hn := Lib.hid hn
 have Hm := Lib.hid hm
 have Hs := Lib.hid hs
 have Ht := Lib.hid ht
 clear hn hm hs ht
 go_enter Tryz.func62, Tryz.ntmps62
 go_wp2_with fail
 refine (cmpFunc_c A B n m c d xs ys w Hn.out Hm.out hn1 hm1 Hs.out Ht.out).mono ?_
 rintro e w1 ⟨rfl, hb1⟩
 go_wp2
 go_ret
 exact ⟨rfl, hb1⟩
end Go.Proofs.YtldaoepemofhlaaGreatDoor
namespace Go.Proofs.YtldaoepemofhlaaGreatDoor
open Go
theorem cb_range : ∀ a b : List UInt8, Lib.compareBytes a b = -1 ∨ Lib.compareBytes a b = 0 ∨ Lib.compareBytes a b = 1
 | [], [] => .inr (.inl rfl)
 | [], _ :: _ => .inl rfl
 | _ :: _, [] => .inr (.inr rfl)
 | a :: al, b :: bs => by
   rw [Lib.compareBytes]
   by_cases h1 : a < b
   · rw [if_pos h1]; exact .inl rfl
   · by_cases h2 : b < a
     · rw [if_neg h1, if_pos h2]; exact .inr (.inr rfl)
     · rw [if_neg h1, if_neg h2]; exact cb_range al bs
theorem cb_neg : ∀ a b : List UInt8, Lib.compareBytes b a = - Lib.compareBytes a b
 | [], [] => rfl
 | [], _ :: _ => rfl
 | _ :: _, [] => rfl
 | a :: al, b :: bs => by
   rw [Lib.compareBytes, Lib.compareBytes]
   by_cases h1 : a < b
   · have h2 : ¬ b < a := by rw [UInt8.lt_iff_toNat_lt] at *; omega
     rw [if_pos h1, if_neg h2, if_pos h1]; rfl
   · by_cases h2 : b < a
     · rw [if_pos h2, if_neg h1, if_pos h2]
     · rw [if_neg h1, if_neg h2, if_neg h2, if_neg h1]; exact cb_neg al bs
theorem cb_eq : ∀ a b : List UInt8, Lib.compareBytes a b = 0 → a = b
 | [], [], _ => rfl
 | [], _ :: _, h => by cases h
 | _ :: _, [], h => by cases h
 | a :: al, b :: bs, h => by
   rw [Lib.compareBytes] at h
   by_cases h1 : a < b
   · rw [if_pos h1] at h; cases h
   · by_cases h2 : b < a
     · rw [if_neg h1, if_pos h2] at h; cases h
     · rw [if_neg h1, if_neg h2] at h
       have : a = b := by rw [UInt8.lt_iff_toNat_lt] at h1 h2; exact UInt8.toNat_inj.1 (by omega)
       rw [this, cb_eq al bs h]
theorem cb_self : ∀ a : List UInt8, Lib.compareBytes a a = 0
 | [] => rfl
 | a :: al => by
   have h : ¬ a < a := by rw [UInt8.lt_iff_toNat_lt]; omega
   rw [Lib.compareBytes, if_neg h, if_neg h]; exact cb_self al
theorem cb_trans : ∀ a b c : List UInt8, Lib.compareBytes a b = -1 → Lib.compareBytes b c = -1 → Lib.compareBytes a c = -1
 | [], [], _, h, _ => by cases h
 | [], _ :: _, [], _, h => by cases h
 | [], _ :: _, _ :: _, _, _ => rfl
 | _ :: _, [], _, h, _ => by cases h
 | _ :: _, _ :: _, [], _, h => by cases h
 | a :: al, b :: bs, c :: cs, h1, h2 => by
   rw [Lib.compareBytes] at h1 h2 ⊢
   simp only [UInt8.lt_iff_toNat_lt] at *
   by_cases p1 : a.toNat < b.toNat
   · by_cases p2 : b.toNat < c.toNat
     · rw [if_pos (by omega)]
     · rw [if_neg p2] at h2
       by_cases p3 : c.toNat < b.toNat
       · rw [if_pos p3] at h2; cases h2
       · rw [if_pos (by omega)]
   · rw [if_neg p1] at h1
     by_cases p2 : b.toNat < a.toNat
     · rw [if_pos p2] at h1; cases h1
     · rw [if_neg p2] at h1
       by_cases p3 : b.toNat < c.toNat
       · rw [if_pos (by omega)]
       · rw [if_neg p3] at h2
         by_cases p4 : c.toNat < b.toNat
         · rw [if_pos p4] at h2; cases h2
         · rw [if_neg p4] at h2
           rw [if_neg (by omega), if_neg (by omega)]
           exact cb_trans al bs cs h1 h2
theorem ci_range (a b : Int) : Lib.compareInt a b = -1 ∨ Lib.compareInt a b = 0 ∨ Lib.compareInt a b = 1 := by
 unfold Lib.compareInt; split <;> (try split) <;> simp
theorem ci_neg (a b : Int) : Lib.compareInt b a = - Lib.compareInt a b := by
 unfold Lib.compareInt; split <;> split <;> (try split) <;> (try split) <;> first | rfl | omega
theorem ci_lt {a b : Int} : Lib.compareInt a b = -1 ↔ a < b := by
 unfold Lib.compareInt; split
 · simp [*]
 · split <;> simp <;> omega
theorem ci_zero {a b : Int} : Lib.compareInt a b = 0 ↔ a = b := by
 unfold Lib.compareInt; split
 · simp; omega
 · split
   · simp; omega
   · simp; omega
theorem cmp_range (x y : Val) : cmpV x y = -1 ∨ cmpV x y = 0 ∨ cmpV x y = 1 := by
 unfold cmpV; split
 · exact ci_range _ _
 · split
   · exact ci_range _ _
   · exact cb_range _ _
theorem cmp_neg (x y : Val) : cmpV y x = - cmpV x y := by
 unfold cmpV
 by_cases h1 : x.k = y.k <;> by_cases h2 : x.n = y.n
 · simp [h1, h2, cb_neg x.s.data.toList]
 · simp [h1, h2, Ne.symm h2, ci_neg x.n]
 · simp [h1, Ne.symm h1, ci_neg x.k]
 · simp [h1, Ne.symm h1, ci_neg x.k]
theorem cmp_zero {x y : Val} : cmpV x y = 0 ↔ x = y := by
 constructor
 · intro h
   unfold cmpV at h
   obtain ⟨k, n, s⟩ := x
   obtain ⟨k', n', s'⟩ := y
   by_cases h1 : k = k'
   · by_cases h2 : n = n'
     · simp [h1, h2] at h
       have := cb_eq _ _ h
       have hs : s = s' := by
        obtain ⟨⟨l⟩⟩ := s; obtain ⟨⟨l'⟩⟩ := s'
        simp at this; rw [this]
       rw [h1, h2, hs]
     · simp [h1, h2, ci_zero] at h
   · simp [h1, ci_zero] at h
 · rintro rfl
   simp [cmpV, cb_self]
theorem cmp_lt {x y : Val} : cmpV x y = -1 ↔ x.k < y.k ∨ (x.k = y.k ∧ (x.n < y.n ∨ (x.n = y.n ∧ Lib.compareBytes x.s.data.toList y.s.data.toList = -1))) := by
 unfold cmpV
 by_cases h1 : x.k = y.k
 · by_cases h2 : x.n = y.n
   · simp [h1, h2]
   · simp [h1, h2, ci_lt]
 · simp [h1, ci_lt]
theorem cmp_trans {x y z : Val} (h1 : cmpV x y = -1) (h2 : cmpV y z = -1) : cmpV x z = -1 := by
 rw [cmp_lt] at *
 rcases h1 with h1 | ⟨e1, h1 | ⟨f1, h1⟩⟩ <;> rcases h2 with h2 | ⟨e2, h2 | ⟨f2, h2⟩⟩
 all_goals first | (left; omega) | (right; refine ⟨by omega, ?_⟩; first | (left; omega) | (right; exact ⟨by omega, cb_trans _ _ _ h1 h2⟩))
theorem cmpL_neg : ∀ a b : List Val, cmpL b a = - cmpL a b
 | [], [] => rfl
 | [], _ :: _ => rfl
 | _ :: _, [] => rfl
 | x :: a, y :: b => by
   rw [cmpL, cmpL, cmp_neg x y, cmpL_neg a b]
   by_cases h : cmpV x y = 0
   · simp [h]
   · have h2 : ¬ - cmpV x y = 0 := by omega
     simp [h]
theorem cmpL_range : ∀ a b : List Val, cmpL a b = -1 ∨ cmpL a b = 0 ∨ cmpL a b = 1
 | [], [] => .inr (.inl rfl)
 | [], _ :: _ => .inl rfl
 | _ :: _, [] => .inr (.inr rfl)
 | x :: a, y :: b => by
   rw [cmpL]
   split
   · exact cmp_range x y
   · exact cmpL_range a b
theorem cmpL_zero : ∀ {a b : List Val}, cmpL a b = 0 → a = b
 | [], [], _ => rfl
 | [], _ :: _, h => by cases h
 | _ :: _, [], h => by cases h
 | x :: a, y :: b, h => by
   rw [cmpL] at h
   split at h
   · rename_i hne
     rw [h] at hne
     simp at hne
   · rename_i hne
     have hxy : cmpV x y = 0 := by simpa using hne
     rw [cmp_zero.1 hxy, cmpL_zero h]
theorem cmpV_same (x : Val) : cmpV x x = 0 := cmp_zero.2 rfl
theorem cmpL_same : ∀ l : List Val, cmpL l l = 0
 | [] => rfl
 | x :: l => by rw [cmpL, cmpV_same]; exact cmpL_same l
theorem cmpL_iff {a b : List Val} : cmpL a b = 0 ↔ a = b := ⟨cmpL_zero, fun h => by rw [h]; exact cmpL_same b⟩
end Go.Proofs.YtldaoepemofhlaaGreatDoor
namespace Go.Proofs.YtldaoepemofhlaaGreatDoor
open Go
theorem cmpL_trans : ∀ {a b c : List Val}, cmpL a b = -1 → cmpL b c = -1 → cmpL a c = -1
 | [], [], _, h, _ => by cases h
 | [], _ :: _, [], _, h => by cases h
 | [], _ :: _, _ :: _, _, _ => rfl
 | _ :: _, [], _, h, _ => by cases h
 | _ :: _, _ :: _, [], _, h => by cases h
 | x :: a, y :: b, z :: c, h1, h2 => by
   rw [cmpL] at h1 h2 ⊢
   by_cases e1 : cmpV x y = 0
   · have hxy := cmp_zero.1 e1
     subst hxy
     rw [e1] at h1
     simp only [bne_self_eq_false, Bool.false_eq_true, if_false] at h1
     by_cases e2 : cmpV x z = 0
     · rw [e2] at h2 ⊢
       simp only [bne_self_eq_false, Bool.false_eq_true, if_false] at h2 ⊢
       exact cmpL_trans h1 h2
     · have e2' : (cmpV x z != 0) = true := by simpa using e2
       rw [e2'] at h2 ⊢
       exact h2
   · have e1' : (cmpV x y != 0) = true := by simpa using e1
     rw [e1'] at h1
     simp only [if_true] at h1
     by_cases e2 : cmpV y z = 0
     · have hyz := cmp_zero.1 e2
       subst hyz
       rw [e1']
       exact h1
     · have e2' : (cmpV y z != 0) = true := by simpa using e2
       rw [e2'] at h2
       simp only [if_true] at h2
       have h3 := cmp_trans h1 h2
       have e3 : (cmpV x z != 0) = true := by rw [h3]; rfl
       rw [e3]
       exact h3
def leR (a b : List Val) : Bool := decide (cmpL a b ≤ 0)
theorem leR_trans (a b c : List Val) (h1 : leR a b = true) (h2 : leR b c = true) : leR a c = true := by
 unfold leR at *
 simp only [decide_eq_true_eq] at *
 rcases cmpL_range a b with e1 | e1 | e1
 · rcases cmpL_range b c with e2 | e2 | e2
   · rw [cmpL_trans e1 e2]; decide
   · rw [← cmpL_iff.1 e2]; exact h1
   · omega
 · rw [cmpL_iff.1 e1]; exact h2
 · omega
theorem leR_total (a b : List Val) : (leR a b || leR b a) = true := by
 unfold leR
 rw [cmpL_neg a b]
 rcases cmpL_range a b with e | e | e <;> rw [e] <;> rfl
theorem leR_anti {a b : List Val} (h1 : leR a b = true) (h2 : leR b a = true) : a = b := by
 unfold leR at *
 simp only [decide_eq_true_eq] at *
 rw [cmpL_neg a b] at h2
 exact cmpL_iff.1 (by omega)
def sortR (l : List (List Val)) : List (List Val) := l.mergeSort leR
theorem sortR_perm (l : List (List Val)) : (sortR l).Perm l := List.mergeSort_perm l leR
theorem sortR_pairwise (l : List (List Val)) : (sortR l).Pairwise (fun a b => leR a b = true) :=
 List.pairwise_mergeSort leR_trans leR_total l
theorem sorted_one {l m : List (List Val)} (hp : l.Perm m) (h1 : l.Pairwise (fun a b => leR a b = true)) (h2 : m.Pairwise (fun a b => leR a b = true)) : l = m :=
 hp.eq_of_pairwise (fun _ _ _ _ hab hba => leR_anti hab hba) h1 h2
theorem sortR_of {l m : List (List Val)} (hp : m.Perm l) (h : m.Pairwise (fun a b => leR a b = true)) : m = sortR l :=
 sorted_one (hp.trans (sortR_perm l).symm) h (sortR_pairwise l)
end Go.Proofs.YtldaoepemofhlaaGreatDoor
namespace Go.Proofs.YtldaoepemofhlaaGreatDoor
open Go Go.RowKit
section
variable {α : Type} {rd : α → List Value} {S : Nat}
def SlG (W : World) (A : Option Addr) (S : Nat) (rd : α → List Value) (xs : List α) : Prop :=
 xs = [] ∨ ∃ b off, A = some ⟨b, off, none⟩ ∧ b < W.heap.size ∧ ∀ i x, xs[i]? = some x → ∀ j u, (rd x)[j]? = some u → W.cell? ⟨b, off + i * S + j, none⟩ = some u
theorem SlG.after {w w' : World} {A : Option Addr} {xs : List α} (h : SlG w A S rd xs) (hb : Below w.heap.size w w') : SlG w' A S rd xs := by
 rcases h with h | ⟨b, off, hA, hlt, h⟩
 · exact .inl h
 · exact .inr ⟨b, off, hA, Nat.lt_of_lt_of_le hlt hb.size, fun i x hx j u hu => (hb.cell hlt).trans (h i x hx j u hu)⟩
theorem flat_at (hl : ∀ x, (rd x).length = S) : ∀ (xs : List α) (i j : Nat) (x : α), xs[i]? = some x → j < S → (xs.flatMap rd)[i * S + j]? = (rd x)[j]?
 | [], i, j, x, h, _ => by simp at h
 | y :: r, 0, j, x, h, hj => by
   simp at h; subst h
   rw [List.flatMap_cons, Nat.zero_mul, Nat.zero_add, List.getElem?_append_left (by rw [hl]; exact hj)]
 | y :: r, i + 1, j, x, h, hj => by
   rw [List.flatMap_cons, List.getElem?_append_right (by rw [hl, Nat.succ_mul]; omega), hl, show (i + 1) * S + j - S = i * S + j by rw [Nat.succ_mul]; omega]
   exact flat_at hl r i j x (by simpa using h) hj
theorem flat_len (hl : ∀ x, (rd x).length = S) : ∀ xs : List α, (xs.flatMap rd).length = xs.length * S
 | [] => by simp
 | x :: r => by rw [List.flatMap_cons, List.length_append, hl, flat_len hl r, List.length_cons, Nat.succ_mul]; omega
theorem SlG.flat {w : World} {xs : List α} {b off : Nat} (hl : ∀ x, (rd x).length = S) (hS : 0 < S) (h : ∀ i x, xs[i]? = some x → ∀ j u, (rd x)[j]? = some u → w.cell? ⟨b, off + i * S + j, none⟩ = some u) :
 ∀ j u, (xs.flatMap rd)[j]? = some u → w.cell? ⟨b, off + j, none⟩ = some u := by
 intro j u hj
 have hlt : j < xs.length * S := by
  have := (List.getElem?_eq_some_iff.1 hj).1
  rwa [flat_len hl] at this
 have hi : j / S < xs.length := (Nat.div_lt_iff_lt_mul hS).2 hlt
 have hx : xs[j / S]? = some xs[j / S] := List.getElem?_eq_getElem hi
 have e : j / S * S + j % S = j := by rw [Nat.mul_comm]; exact Nat.div_add_mod j S
 have h1 := flat_at hl xs (j / S) (j % S) _ hx (Nat.mod_lt _ hS)
 rw [e] at h1
 have h2 := h (j / S) _ hx (j % S) u (h1.symm.trans hj)
 rwa [Nat.add_assoc, e] at h2
theorem SlG.new {w : World} {cs : Array Value} {E : TypeId} (hl : ∀ x, (rd x).length = S) (xs : List α) (h : cs = (xs.flatMap rd).toArray) : SlG (w.alloc (.cells cs E)) (some ⟨w.heap.size, 0, none⟩) S rd xs := by
 subst h
 refine .inr ⟨w.heap.size, 0, rfl, by simp, fun i x hx j u hu => ?_⟩
 have e0 : (w.alloc (.cells (xs.flatMap rd).toArray E)).heap[w.heap.size]? = some (.cells (xs.flatMap rd).toArray E (0, 0)) := by
  show (w.heap.push _)[w.heap.size]? = _
  simp
 have hj : j < S := by have := (List.getElem?_eq_some_iff.1 hu).1; rwa [hl] at this
 simp only [World.cell?, e0, Option.isSome_none, Bool.false_eq_true, if_false, List.getElem?_toArray]
 rw [Nat.zero_add, flat_at hl xs i j x hx hj]
 exact hu
structure ElOk (P : Program) (T E : TypeId) (S bytes : Nat) (z : Value) (rd : α → List Value) : Prop where
 under : P.underlying T = some (.slice E)
 info : (P.info? E).map (fun i => (i.zero, i.size, i.bytes)) = some (some z, S, bytes)
 zs : z.cells.size = S
 pos : 0 < S
 len : ∀ x, (rd x).length = S
 one : ∀ x u, u ∈ rd x → u.oneCell' = true
def OwnG (w : World) (B : Nat) (E : TypeId) (S : Nat) (rd : α → List Value) (v : Value) (xs : List α) : Prop := w.ownsRow B E S v xs.length (xs.flatMap rd)
theorem OwnG.nil (w : World) (B : Nat) (E : TypeId) : OwnG w B E S rd (.slice none 0 0) [] := World.ownsRow_nil w B E S
theorem OwnG.made (w : World) (B : Nat) (E : TypeId) (cur : Array Value) (cap : Nat) (hB : B ≤ w.heap.size) (hm : cap ≤ maxLen) (hs : cur.size = cap * S) : OwnG (w.alloc (.cells cur E)) B E S rd (.slice (some ⟨w.heap.size, 0, none⟩) 0 cap) [] :=
 World.ownsRow_made w cur cap hB hm hs
theorem OwnG.lt {w : World} {B : Nat} {E : TypeId} {v : Value} {xs : List α} (h : OwnG w B E S rd v xs) : ∀ k, v.ownBlock = some k → B ≤ k ∧ k < w.heap.size := fun k hk => World.ownsRow.lt h k hk
theorem OwnG.same {w w' : World} {B : Nat} {E : TypeId} {v : Value} {xs : List α} (h : OwnG w B E S rd v xs) (hb : ∀ k, v.ownBlock = some k → w'.heap[k]? = w.heap[k]?) : OwnG w' B E S rd v xs := by
 obtain ⟨h1, h2⟩ := h
 refine ⟨h1, ?_⟩
 rcases h2 with h2 | ⟨g', cap, cur, hv, hB, hh, h3⟩
 · exact .inl h2
 · exact .inr ⟨g', cap, cur, hv, hB, (hb g' (by rw [hv]; rfl)).trans hh, h3⟩
theorem OwnG.after {w w' : World} {B : Nat} {E : TypeId} {v : Value} {xs : List α} (h : OwnG w B E S rd v xs) (hb : Below w.heap.size w w') : OwnG w' B E S rd v xs := h.same fun k hk => hb.block k (h.lt k hk).2
theorem OwnG.alloc {w : World} {B : Nat} {E : TypeId} {v : Value} {xs : List α} (h : OwnG w B E S rd v xs) (o : Obj) : OwnG (w.alloc o) B E S rd v xs := h.after (below_one w o)
theorem OwnG.mono {w : World} {B B' : Nat} {E : TypeId} {v : Value} {xs : List α} (h : OwnG w B E S rd v xs) (hB : B' ≤ B) : OwnG w B' E S rd v xs := by
 obtain ⟨h1, h2⟩ := h
 refine ⟨h1, ?_⟩
 rcases h2 with h2 | ⟨g', cap, cur, hv, hb, h3⟩
 · exact .inl h2
 · exact .inr ⟨g', cap, cur, hv, by omega, h3⟩
theorem OwnG.sl {w : World} {B : Nat} {E : TypeId} {v : Value} {xs : List α} (hl : ∀ x, (rd x).length = S) (h : OwnG w B E S rd v xs) : ∃ A c, v = .slice A xs.length c ∧ xs.length ≤ c ∧ c ≤ maxLen ∧ SlG w A S rd xs := by
 rcases h.2 with ⟨rfl, hn⟩ | ⟨g, cap, cur, rfl, hB, hh, hle, hm, _⟩
 · obtain rfl : xs = [] := List.eq_nil_of_length_eq_zero hn
   exact ⟨none, 0, rfl, Nat.le_refl _, Nat.zero_le _, .inl rfl⟩
 · refine ⟨some ⟨g, 0, none⟩, cap, rfl, hle, hm, .inr ⟨g, 0, rfl, (h.lt g rfl).2, fun i x hx j u hu => ?_⟩⟩
   have hj : j < S := by have := (List.getElem?_eq_some_iff.1 hu).1; rwa [hl] at this
   have := World.ownsRow.cells (g := g) h rfl (i * S + j) u ((flat_at hl xs i j x hx hj).trans hu)
   rwa [Go.WideShapes.add_plain, ← Nat.add_assoc] at this
theorem OwnG.isSlice {w : World} {B : Nat} {E : TypeId} {v : Value} {xs : List α} (h : OwnG w B E S rd v xs) : ∃ A c, v = .slice A xs.length c := by
 rcases h.2 with ⟨rfl, hn⟩ | ⟨g, cap, cur, rfl, _⟩
 · exact ⟨none, 0, by rw [hn]⟩
 · exact ⟨_, cap, rfl⟩
variable {P : Program} {T E : TypeId} {bytes : Nat} {z : Value}
theorem ElOk.parts (h : ElOk P T E S bytes z rd) : ∃ i : TypeInfo, P.info? E = some i ∧ i.zero = some z ∧ i.size = S ∧ i.bytes = bytes := by
 have hi := h.info
 cases e : P.info? E with
 | none => rw [e] at hi; cases hi
 | some i =>
   rw [e] at hi
   simp at hi
   exact ⟨i, rfl, hi.1, hi.2.1, hi.2.2⟩
theorem app_none (he : ElOk P T E S bytes z rd) (w : World) (v : Value) (B c : Nat) (ty : TypeId) (xs : List α) (h : OwnG w B E S rd v xs) : (Builtin.append_ #[T, T] ty #[v, .slice none 0 c]).run P w = .ok v w := by
 obtain ⟨i0, hi, hz0, hz1, hz2⟩ := he.parts
 rcases h.2 with ⟨rfl, _⟩ | ⟨g, cap, cur, rfl, _, _, hnc, _⟩
 · simp [Builtin.append_, run_underlying he.under, sizeOf, typeInfo, hi, Builtin.lenOf, Builtin.firstCells]
 · simp [Builtin.append_, run_underlying he.under, sizeOf, typeInfo, hi, Builtin.lenOf, Builtin.firstCells, hnc, storeCells]
theorem wpList_appG {ops : Array Oper} {rest : List Oper} {o : Oper} {a : Act} {Q : Exit → Act → World → Prop} {w : World} (he : ElOk P T E S bytes z rd) (hgd : o.guard = none) (s x : Operand) (ho : o.op = .call { callee := .builtin .append, args := #[s, x], argTypes := #[T, T] })
 (B : Nat) (v : Value) (xs ys : List α) (A : Option Addr) (n c : Nat) (hs : a.eval s = v) (hb : OwnG w B E S rd v xs) (hx : a.eval x = .slice A n c) (hn : ys.length = n) (hsl : SlG w A S rd ys)
 (hmax : xs.length + ys.length ≤ maxLen) (hbytes : (xs.length + ys.length) * bytes ≤ 140737488355328) (hB : B ≤ w.heap.size)
 (h : ∀ v' w', OwnG w' B E S rd v' (xs ++ ys) → w.grownBy w' v.ownBlock → wpList P ops Q rest (a.put o.dst v') w') : wpList P ops Q (o :: rest) a w := by
 obtain ⟨i0, hi, hz0, hz1, hz2⟩ := he.parts
 subst hn
 have some_case : ∀ (ad : Addr), A = some ad → (∀ j u, (ys.flatMap rd)[j]? = some u → w.cell? (ad.add j) = some u) → wpList P ops Q (o :: rest) a w := by
  intro ad hA hcells
  subst hA
  refine wpList_append_own_at _ hgd s x T ho B E i0 z S bytes he.under hi hz0 hz1 hz2 he.zs he.pos v xs.length (xs.flatMap rd) hs hb ad ys.length c (ys.flatMap rd) hx (flat_len he.len ys) hcells (fun u hu => by obtain ⟨q, _, hq⟩ := List.mem_flatMap.1 hu; exact he.one q u hq) hmax hbytes hB ?_
  intro v' w' hown' hgrow _ _
  refine h v' w' ?_ hgrow
  unfold OwnG
  rw [List.flatMap_append, List.length_append]
  exact hown'
 rcases hsl with rfl | ⟨b, off, hA, hlt, hc⟩
 · cases A with
   | some ad => exact some_case ad rfl (fun j u hj => by simp at hj)
   | none =>
     refine wpList_plain hgd fun K hK => ?_
     have hr := app_none he w v B c o.type xs hb
     unfold Oper.wp execOp
     have hx' : a.eval x = .slice none 0 c := hx
     simp only [ho, resolve, invoke, builtin, Sem.run_bind, Sem.run_pure, Result.andThen_ok, List.map_toArray, List.map_cons, List.map_nil, hs, hx', hr]
     exact hK _ _ (h v w (by rw [List.append_nil]; exact hb) (World.grownBy.refl w _))
 · refine some_case ⟨b, off, none⟩ hA fun j u hj => ?_
   rw [Go.WideShapes.add_plain]
   exact SlG.flat he.len he.pos hc j u hj
theorem step_appG {ops : Array Oper} {o : Oper} {a : Act} {w : World} {K : Act → World → Prop} {Q : Exit → Act → World → Prop} {F : Prop} (he : ElOk P T E S bytes z rd) (hgd : o.guard = none) (s y : Operand) (ho : o.op = .call { callee := .builtin .append, args := #[s, y], argTypes := #[T, T] })
 (B : Nat) (v : Value) (xs ys : List α) (hs : a.eval s = v) (hb : OwnG w B E S rd v xs) (A : Option Addr) (n c : Nat) (hy : a.eval y = .slice A n c) (hn : ys.length = n) (hn0 : ys ≠ []) (hsl : SlG w A S rd ys)
 (hmax : xs.length + ys.length ≤ maxLen) (hbytes : (xs.length + ys.length) * bytes ≤ 140737488355328) (hB : B ≤ w.heap.size)
 (h : ∀ g' cap w', OwnG w' B E S rd (.slice (some ⟨g', 0, none⟩) (xs.length + ys.length) cap) (xs ++ ys) → w.grownBy w' v.ownBlock → K (a.put o.dst (.slice (some ⟨g', 0, none⟩) (xs.length + ys.length) cap)) w') :
 if Region.wanted o (yielded ops a.tmps) = true then Oper.wp P o a w K Q else F := by
 obtain ⟨i0, hi, hz0, hz1, hz2⟩ := he.parts
 subst hn
 rcases hsl with h0 | ⟨b, off, rfl, hlt, hc⟩
 · exact absurd h0 hn0
 refine step_append_lies w hgd s y T ho B E i0 z S bytes he.under hi hz0 hz1 hz2 he.zs he.pos v xs.length (xs.flatMap rd) hs hb ⟨b, off, none⟩ ys.length c (ys.flatMap rd) hy (flat_len he.len ys) (fun j u hj => by rw [Go.WideShapes.add_plain]; exact SlG.flat he.len he.pos hc j u hj) (fun u hu => by obtain ⟨q, _, hq⟩ := List.mem_flatMap.1 hu; exact he.one q u hq) (List.length_pos_iff.2 hn0) hmax hbytes hB _ rfl ?_
 intro g' cap w' hown' hgrow _ _
 refine h g' cap w' ?_ hgrow
 unfold OwnG
 rw [List.flatMap_append, List.length_append]
 exact hown'
end
end Go.Proofs.YtldaoepemofhlaaGreatDoor
namespace Go.Proofs.YtldaoepemofhlaaGreatDoor
open Go Go.RowKit
set_option maxRecDepth 100000
structure Hd where
 A : Option Addr
 n : Nat
 c : Nat
 xs : List Val
abbrev Hd.v (h : Hd) : Value := .slice h.A h.n h.c
def rdH (h : Hd) : List Value := [.slice h.A h.n h.c]
def rdV (x : Val) : List Value := [.int .i64 x.k, .int .i64 x.n, .string x.s]
def rdI (x : Int) : List Value := [.int .i64 x]
def rdS (l : List UInt8) : List Value := [.string ⟨l.toArray⟩]
structure Hd.In (w : World) (h : Hd) : Prop where
 len : h.xs.length = h.n
 max : h.n ≤ maxLen
 sl : Sl w h.A h.xs
theorem Hd.In.after {w w' : World} {h : Hd} (hi : Hd.In w h) (hb : Below w.heap.size w w') : Hd.In w' h := ⟨hi.len, hi.max, hi.sl.after hb⟩
theorem vOk : ElOk Tryz.prog 47 39 3 32 nl.v rdV where
 under := Tryz.underlying47
 info := by kernel_rfl
 zs := rfl
 pos := by decide
 len := fun _ => rfl
 one := fun x u hu => by
  simp [rdV] at hu
  rcases hu with rfl | rfl | rfl <;> rfl
theorem hOk : ElOk Tryz.prog 78 47 1 24 (.slice none 0 0) rdH where
 under := Tryz.underlying78
 info := by kernel_rfl
 zs := rfl
 pos := by decide
 len := fun _ => rfl
 one := fun x u hu => by
  simp [rdH] at hu
  rcases hu with rfl; rfl
theorem SlG.sl {w : World} {A : Option Addr} {xs : List Val} (h : SlG w A 3 rdV xs) : Sl w A xs := by
 rcases h with h | ⟨b, off, hA, hlt, h⟩
 · exact .inl h
 · exact .inr ⟨b, off, hA, hlt, fun i x hx => ⟨h i x hx 0 _ rfl, h i x hx 1 _ rfl, h i x hx 2 _ rfl⟩⟩
theorem Sl.slG {w : World} {A : Option Addr} {xs : List Val} (h : Sl w A xs) : SlG w A 3 rdV xs := by
 rcases h with h | ⟨b, off, hA, hlt, h⟩
 · exact .inl h
 · refine .inr ⟨b, off, hA, hlt, fun i x hx j u hu => ?_⟩
   obtain ⟨h0, h1, h2⟩ := h i x hx
   match j, hu with
   | 0, hu => simp [rdV] at hu; subst hu; exact h0
   | 1, hu => simp [rdV] at hu; subst hu; exact h1
   | 2, hu => simp [rdV] at hu; subst hu; exact h2
   | j + 3, hu => simp [rdV] at hu
theorem Sl.at3 {w : World} {A : Option Addr} {xs : List Val} (h : Sl w A xs) {k : Nat} (hk : k < xs.length) :
 ∃ b off x, A = some ⟨b, off, none⟩ ∧ b < w.heap.size ∧ xs[k]? = some x ∧ w.cell? ⟨b, off + k * 3, none⟩ = some (.int .i64 x.k) ∧ w.cell? ⟨b, off + k * 3 + 1, none⟩ = some (.int .i64 x.n) ∧ w.cell? ⟨b, off + k * 3 + 2, none⟩ = some (.string x.s) := by
 rcases h with rfl | ⟨b, off, hA, hlt, h⟩
 · simp at hk
 · have := h k xs[k] (List.getElem?_eq_getElem hk)
   exact ⟨b, off, xs[k], hA, hlt, List.getElem?_eq_getElem hk, this⟩
theorem all_dropA (p : Val → Bool) (xs : List Val) (k : Nat) (x : Val) (hx : xs[k]? = some x) : (xs.drop k).all p = (p x && (xs.drop (k + 1)).all p) := by
 have h1 := List.drop_eq_getElem_cons (List.getElem?_eq_some_iff.1 hx).1
 rw [(List.getElem?_eq_some_iff.1 hx).2] at h1
 rw [h1, List.all_cons]
theorem SlG.at1 {α : Type} {rd : α → List Value} {w : World} {A : Option Addr} {xs : List α} (h : SlG w A 1 rd xs) {k : Nat} (hk : k < xs.length) :
 ∃ b off x, A = some ⟨b, off, none⟩ ∧ b < w.heap.size ∧ xs[k]? = some x ∧ ∀ u, (rd x)[0]? = some u → w.cell? ⟨b, off + k, none⟩ = some u := by
 rcases h with rfl | ⟨b, off, hA, hlt, h⟩
 · simp at hk
 · refine ⟨b, off, xs[k], hA, hlt, List.getElem?_eq_getElem hk, fun u hu => ?_⟩
   have := h k xs[k] (List.getElem?_eq_getElem hk) 0 u hu
   rwa [Nat.mul_one, Nat.add_zero] at this
abbrev OwnV (w : World) (B : Nat) (v : Value) (xs : List Val) : Prop := OwnG w B 39 3 rdV v xs
theorem OwnG.hd {w : World} {B : Nat} {v : Value} {xs : List Val} (h : OwnV w B v xs) : ∃ h : Hd, v = h.v ∧ Hd.In w h ∧ h.xs = xs ∧ (∀ b off, h.A = some ⟨b, off, none⟩ → B ≤ b ∧ b < w.heap.size) ∧ h.n ≤ h.c := by
 obtain ⟨A, c, hv, hc, hm, hs⟩ := h.sl vOk.len
 refine ⟨⟨A, xs.length, c, xs⟩, hv, ⟨rfl, Nat.le_trans hc hm, hs.sl⟩, rfl, fun b off hA => ?_, hc⟩
 simp only at hA
 subst hA
 exact h.lt b (by rw [hv]; rfl)
section
variable {α : Type} {rd : α → List Value} {S N : Nat}
structure Mk (w : World) (g S N : Nat) (rd : α → List Value) (xs : List α) : Prop where
 lt : g < w.heap.size
 all : ∀ j, j < N * S → ∃ u, w.cell? ⟨g, j, none⟩ = some u
 thaw : ∀ j, w.frozen? ⟨g, j, none⟩ = false
 at' : ∀ i x, xs[i]? = some x → ∀ j u, (rd x)[j]? = some u → w.cell? ⟨g, i * S + j, none⟩ = some u
theorem Mk.same {w w' : World} {g : Nat} {xs : List α} (h : Mk w g S N rd xs) (hs : w.heap.size ≤ w'.heap.size) (hb : w'.heap[g]? = w.heap[g]?) : Mk w' g S N rd xs := by
 have hc : ∀ j, w'.cell? ⟨g, j, none⟩ = w.cell? ⟨g, j, none⟩ := fun j => by simp only [World.cell?, hb]
 have hf : ∀ j, w'.frozen? ⟨g, j, none⟩ = w.frozen? ⟨g, j, none⟩ := fun j => by simp only [World.frozen?, hb]
 exact ⟨Nat.lt_of_lt_of_le h.lt hs, fun j hj => by rw [hc]; exact h.all j hj, fun j => by rw [hf]; exact h.thaw j, fun i x hx j u hu => by rw [hc]; exact h.at' i x hx j u hu⟩
theorem Mk.after {w w' : World} {g B : Nat} {xs : List α} (h : Mk w g S N rd xs) (hb : Below B w w') (hg : g < B) : Mk w' g S N rd xs := h.same hb.size (hb.block g hg)
theorem Mk.new (w : World) (cs : Array Value) (T : TypeId) (h : cs.size = N * S) : Mk (w.alloc (.cells cs T)) w.heap.size S N rd ([] : List α) := by
 have e0 : (w.alloc (.cells cs T)).heap[w.heap.size]? = some (.cells cs T (0, 0)) := by
  show (w.heap.push _)[w.heap.size]? = _
  simp
 refine ⟨by simp, fun j hj => ?_, fun j => ?_, fun i x hx => by simp at hx⟩
 · refine ⟨cs[j]'(by omega), ?_⟩
   simp only [World.cell?, e0, Option.isSome_none, Bool.false_eq_true, if_false]
   exact Array.getElem?_eq_getElem _
 · unfold World.frozen?
   rw [show (w.alloc (.cells cs T)).heap[(⟨w.heap.size, j, none⟩ : Addr).block]? = some (.cells cs T (0, 0)) from e0]
   simp
theorem Mk.slG {w : World} {g : Nat} {xs : List α} (h : Mk w g S N rd xs) : SlG w (some ⟨g, 0, none⟩) S rd xs :=
 .inr ⟨g, 0, rfl, h.lt, fun i x hx j u hu => by rw [Nat.zero_add]; exact h.at' i x hx j u hu⟩
theorem Mk.set1 {w : World} {g : Nat} {xs : List α} (hl : ∀ x, (rd x).length = 1) (h : Mk w g 1 N rd xs) (x : α) (v : Value) (hv : rd x = [v]) (hlt : xs.length < N) : Mk (w.setCell ⟨g, xs.length, none⟩ v) g 1 N rd (xs ++ [x]) := by
 obtain ⟨u0, h0⟩ := h.all xs.length (by omega)
 have same : (w.setCell ⟨g, xs.length, none⟩ v).cell? ⟨g, xs.length, none⟩ = some v := World.cell?_setCell_same _ _ _ h0
 have other : ∀ j, j ≠ xs.length → (w.setCell ⟨g, xs.length, none⟩ v).cell? ⟨g, j, none⟩ = w.cell? ⟨g, j, none⟩ := fun j hj => World.cell?_setCell_other _ _ _ _ (by intro e; simp only [Addr.mk.injEq] at e; exact hj e.2.1.symm)
 refine ⟨by simpa using h.lt, fun j hj => ?_, fun j => by rw [World.frozen?_setCell]; exact h.thaw j, fun i y hy j u hu => ?_⟩
 · by_cases e : j = xs.length
   · subst e; exact ⟨v, same⟩
   · rw [other j e]; exact h.all j hj
 · have hj : j < 1 := by have := (List.getElem?_eq_some_iff.1 hu).1; rwa [hl] at this
   by_cases hi : i < xs.length
   · rw [List.getElem?_append_left hi] at hy
     rw [other _ (by omega)]
     exact h.at' i y hy j u hu
   · have hi' : i = xs.length := by
      have := (List.getElem?_eq_some_iff.1 hy).1
      simp at this; omega
     subst hi'
     simp at hy
     subst hy
     obtain rfl : j = 0 := by omega
     rw [hv] at hu
     simp at hu
     subst hu
     rw [Nat.mul_one, Nat.add_zero]
     exact same
theorem Mk.set3 {w : World} {g : Nat} {xs : List Val} (h : Mk w g 3 N rdV xs) (x : Val) (hlt : xs.length < N) :
 Mk (((w.setCell ⟨g, xs.length * 3, none⟩ (.int .i64 x.k)).setCell ⟨g, xs.length * 3 + 1, none⟩ (.int .i64 x.n)).setCell ⟨g, xs.length * 3 + 2, none⟩ (.string x.s)) g 3 N rdV (xs ++ [x]) := by
 obtain ⟨u0, h0⟩ := h.all (xs.length * 3) (by omega)
 obtain ⟨u1, h1⟩ := h.all (xs.length * 3 + 1) (by omega)
 obtain ⟨u2, h2⟩ := h.all (xs.length * 3 + 2) (by omega)
 have oth : ∀ (w : World) (p j : Nat) (v : Value), j ≠ p → (w.setCell ⟨g, p, none⟩ v).cell? ⟨g, j, none⟩ = w.cell? ⟨g, j, none⟩ := fun w p j v hj => World.cell?_setCell_other _ _ _ _ (by intro e; simp only [Addr.mk.injEq] at e; exact hj e.2.1.symm)
 have k1 : (w.setCell ⟨g, xs.length * 3, none⟩ (.int .i64 x.k)).cell? ⟨g, xs.length * 3 + 1, none⟩ = some u1 := (oth _ _ _ _ (by omega)).trans h1
 have k2 : ((w.setCell ⟨g, xs.length * 3, none⟩ (.int .i64 x.k)).setCell ⟨g, xs.length * 3 + 1, none⟩ (.int .i64 x.n)).cell? ⟨g, xs.length * 3 + 2, none⟩ = some u2 := (oth _ _ _ _ (by omega)).trans ((oth _ _ _ _ (by omega)).trans h2)
 have c2 := World.cell?_setCell_same _ ⟨g, xs.length * 3 + 2, none⟩ (.string x.s) k2
 have c1 := (oth ((w.setCell ⟨g, xs.length * 3, none⟩ (.int .i64 x.k)).setCell ⟨g, xs.length * 3 + 1, none⟩ (.int .i64 x.n)) (xs.length * 3 + 2) (xs.length * 3 + 1) (.string x.s) (by omega)).trans (World.cell?_setCell_same _ ⟨g, xs.length * 3 + 1, none⟩ (.int .i64 x.n) k1)
 have c0 := (oth ((w.setCell ⟨g, xs.length * 3, none⟩ (.int .i64 x.k)).setCell ⟨g, xs.length * 3 + 1, none⟩ (.int .i64 x.n)) (xs.length * 3 + 2) (xs.length * 3) (.string x.s) (by omega)).trans ((oth (w.setCell ⟨g, xs.length * 3, none⟩ (.int .i64 x.k)) (xs.length * 3 + 1) (xs.length * 3) (.int .i64 x.n) (by omega)).trans (World.cell?_setCell_same _ ⟨g, xs.length * 3, none⟩ (.int .i64 x.k) h0))
 have other : ∀ j, j ≠ xs.length * 3 → j ≠ xs.length * 3 + 1 → j ≠ xs.length * 3 + 2 → (((w.setCell ⟨g, xs.length * 3, none⟩ (.int .i64 x.k)).setCell ⟨g, xs.length * 3 + 1, none⟩ (.int .i64 x.n)).setCell ⟨g, xs.length * 3 + 2, none⟩ (.string x.s)).cell? ⟨g, j, none⟩ = w.cell? ⟨g, j, none⟩ := fun j e0 e1 e2 => (oth _ _ _ _ e2).trans ((oth _ _ _ _ e1).trans (oth _ _ _ _ e0))
 refine ⟨by simpa using h.lt, fun j hj => ?_, fun j => by rw [World.frozen?_setCell, World.frozen?_setCell, World.frozen?_setCell]; exact h.thaw j, fun i y hy j u hu => ?_⟩
 · by_cases e0 : j = xs.length * 3
   · subst e0; exact ⟨_, c0⟩
   by_cases e1 : j = xs.length * 3 + 1
   · subst e1; exact ⟨_, c1⟩
   by_cases e2 : j = xs.length * 3 + 2
   · subst e2; exact ⟨_, c2⟩
   rw [other j e0 e1 e2]
   exact h.all j hj
 · have hj : j < 3 := (List.getElem?_eq_some_iff.1 hu).1
   by_cases hi : i < xs.length
   · rw [List.getElem?_append_left hi] at hy
     rw [other _ (by omega) (by omega) (by omega)]
     exact h.at' i y hy j u hu
   · have hi' : i = xs.length := by
      have := (List.getElem?_eq_some_iff.1 hy).1
      simp at this; omega
     subst hi'
     simp at hy
     subst hy
     match j, hu with
     | 0, hu => simp [rdV] at hu; subst hu; exact c0
     | 1, hu => simp [rdV] at hu; subst hu; exact c1
     | 2, hu => simp [rdV] at hu; subst hu; exact c2
theorem make_run {P : Program} {T E : TypeId} {bytes : Nat} {z : Value} (he : ElOk P T E S bytes z rd) (m : Nat) (hb : bytes * m ≤ 281474976710656) (hm : m ≤ maxLen) :
 ∃ cs : Array Value, cs.size = m * S ∧ ∀ w : World, (Instr.makeSlice T (.int .i64 (m : Int)) (.int .i64 (m : Int))).run P w = .ok (.slice (some ⟨w.heap.size, 0, none⟩) m m) (w.alloc (.cells cs E)) := by
 obtain ⟨i0, hi, hz0, hz1, hz2⟩ := he.parts
 refine ⟨madeCells z.cells (m * S), size_madeCells _ _, fun w => ?_⟩
 have h63 : (m : Int) ≤ 9223372036854775807 := by
  have h := hm
  simp [maxLen] at h
  omega
 have hb' : (i0.bytes : Int) * (m : Int) ≤ 281474976710656 := by
  rw [hz2]
  have h : ((bytes * m : Nat) : Int) ≤ 281474976710656 := by omega
  rwa [Int.natCast_mul] at h
 have hr := run_make (P := P) w T E i0 z he.under hi hz0 .i64 .i64 m m (by omega) (Int.le_refl _) hb' h63
 simp only [Int.toNat_natCast, hz1] at hr
 exact hr
theorem SlG.newAt {w : World} {cs : Array Value} {E : TypeId} {b : Nat} (hb : w.heap.size = b) (hl : ∀ x, (rd x).length = S) (xs : List α) (h : cs = (xs.flatMap rd).toArray) : SlG (w.alloc (.cells cs E)) (some ⟨b, 0, none⟩) S rd xs := by
 subst hb
 exact SlG.new hl xs h
end
theorem below_via {w a b : World} (h : Below w.heap.size w a) (g : Below a.heap.size a b) : Below w.heap.size w b := h.trans (g.mono h.size)
theorem below_al {w a : World} (h : Below w.heap.size w a) (o : Obj) : Below w.heap.size w (a.alloc o) := h.alloc h.size o
end Go.Proofs.YtldaoepemofhlaaGreatDoor
namespace Go.Proofs.YtldaoepemofhlaaGreatDoor
open Go Go.RowKit
set_option maxRecDepth 100000
def mayR (xs : List Val) : Bool := decide (xs.length ≤ 40) && xs.all mayB
set_option maxHeartbeats 1000000 in
theorem mayRow_c (A : Option Addr) (n c : Nat) (xs : List Val) (w : World) (hn : xs.length = n) (hn1 : n ≤ maxLen) (hs : Sl w A xs) (hz : ∀ x ∈ xs, x.s.size ≤ maxLen) :
 Calls Tryz.prog 61 #[.slice A n c] w fun e w' => e = .returned (.bool (mayR xs)) ∧ Below w.heap.size w w' := by
 unfold maxLen at hn1
 have Hn := Lib.hid hn
 have Hs := Lib.hid hs
 have Hz := Lib.hid hz
 by_cases h40 : n ≤ 40
 · have hR : mayR xs = xs.all mayB := by unfold mayR; rw [hn, decide_eq_true h40, Bool.true_and]
   rw [hR]
   obtain ⟨R, hR2⟩ : ∃ R, xs.all mayB = R := ⟨_, rfl⟩
   rw [hR2]
   have HR := Lib.hid hR2
   clear hn hs hz hR hR2
   go_enter Tryz.func61, Tryz.ntmps61
   go_wp2_with fail
   go_loopw [10] (fun i wr => ∃ k : Nat, k ≤ n ∧ i = .int .i64 k ∧ Below w.heap.size w wr ∧ Hid ((xs.drop k).all mayB = R)) (fun i _ => n - (intOf i).toNat)
   case atStart => exact ⟨0, Nat.zero_le _, rfl, Below.refl _ _, HR.out⟩
   case round =>
    obtain ⟨k, hk, rfl, hb, hinv⟩ := hrel
    by_cases hlt : k < n
    · obtain ⟨b, off, x, rfl, hblt, hx, c0, c1, c2⟩ := Hs.out.at3 (by rw [Hn.out]; exact hlt)
      have d0 := (hb.cell (p := ⟨b, off + k * 3, none⟩) hblt).trans c0
      have d1 := (hb.cell (p := ⟨b, off + k * 3 + 1, none⟩) hblt).trans c1
      have d2 := (hb.cell (p := ⟨b, off + k * 3 + 2, none⟩) hblt).trans c2
      have l1 : b < wr.heap.size := Nat.lt_of_lt_of_le hblt hb.size
      have Hxz := Lib.hid (Hz.out x (List.mem_of_getElem? hx))
      have Hst := Lib.hid ((all_dropA mayB xs k x hx).symm.trans hinv.out)
      clear hinv hx c0 c1 c2
      cases hm : mayB x
      · have Hst' : Hid (false = R) := by
         have := Hst.out
         rw [hm, Bool.false_and] at this
         exact this
        clear Hst HR
        go_wp2_with fail
        refine (may_c x _ Hxz.out).mono ?_
        rintro e w1 ⟨rfl, hb1⟩
        rw [hm]
        have hb2 := (hb.alloc hb.size _).trans (hb1.mono (by have := hb.size; simp; omega))
        clear hb1 hb
        go_wp2
        go_ret
        exact ⟨congrArg (fun z => Ending.returned (Value.bool z)) Hst'.out, hb2⟩
      · have Hst' : Hid ((xs.drop (k + 1)).all mayB = R) := by
         have := Hst.out
         rw [hm, Bool.true_and] at this
         exact this
        clear Hst HR
        go_wp2_with fail
        refine (may_c x _ Hxz.out).mono ?_
        rintro e w1 ⟨rfl, hb1⟩
        rw [hm]
        have hb2 := (hb.alloc hb.size _).trans (hb1.mono (by have := hb.size; simp; omega))
        clear hb1 hb
        go_wp2
        go_roundw
        case rel => exact ⟨k + 1, by omega, by go_num, hb2, Hst'.out⟩
        case measure => simp [intOf]; omega
    · obtain rfl : k = n := by omega
      have Hst' : Hid (true = R) := by
       have := hinv.out
       rw [show xs.drop k = [] from List.drop_eq_nil_of_le (by rw [Hn.out]; omega)] at this
       exact this
      clear hinv HR
      go_wp2
      go_ret
      exact ⟨congrArg (fun z => Ending.returned (Value.bool z)) Hst'.out, hb⟩
 · have hR : mayR xs = false := by unfold mayR; rw [hn, decide_eq_false h40, Bool.false_and]
   rw [hR]
   clear hn hs hz hR
   go_enter Tryz.func61, Tryz.ntmps61
   go_wp2
   go_ret
   exact ⟨rfl, Below.refl _ _⟩
end Go.Proofs.YtldaoepemofhlaaGreatDoor
namespace Go.Proofs.YtldaoepemofhlaaGreatDoor
open Go
abbrev Bg := List (List Val × Int)
def Asc (b : Bg) : Prop := b.Pairwise fun x y => cmpL x.1 y.1 = -1
def NZ (b : Bg) : Prop := ∀ x ∈ b, x.2 ≠ 0
def lookB : Bg → List Val → Int
 | [], _ => 0
 | x :: b, r => if cmpL x.1 r = 0 then x.2 else lookB b r
def addB : Bg → List Val → Int → Bg
 | [], r, n => if n = 0 then [] else [(r, n)]
 | x :: b, r, n => if cmpL x.1 r = -1 then x :: addB b r n else if cmpL x.1 r = 0 then (if n + x.2 = 0 then b else (r, n + x.2) :: b) else (if n = 0 then x :: b else (r, n) :: x :: b)
theorem cmpL_one {a b : List Val} (h1 : cmpL a b ≠ -1) (h2 : cmpL a b ≠ 0) : cmpL b a = -1 := by
 rw [cmpL_neg a b]
 rcases cmpL_range a b with h | h | h
 · exact absurd h h1
 · exact absurd h h2
 · rw [h]
theorem cmpL_lt_ne {a b : List Val} (h : cmpL a b = -1) : cmpL a b ≠ 0 := by rw [h]; decide
theorem look_none (b : Bg) (r : List Val) (h : ∀ x ∈ b, cmpL r x.1 = -1) : lookB b r = 0 := by
 induction b with
 | nil => rfl
 | cons x b ih =>
   rw [lookB, if_neg, ih fun y hy => h y (List.mem_cons_of_mem _ hy)]
   intro e
   have := h x (by simp)
   rw [cmpL_neg x.1 r, e] at this
   cases this
theorem look_cons_ne {x : List Val × Int} {b : Bg} {r : List Val} (h : cmpL x.1 r ≠ 0) : lookB (x :: b) r = lookB b r := by rw [lookB, if_neg h]
theorem asc_head {x : List Val × Int} {b : Bg} (h : Asc (x :: b)) : ∀ y ∈ b, cmpL x.1 y.1 = -1 := (List.pairwise_cons.1 h).1
theorem asc_tail {x : List Val × Int} {b : Bg} (h : Asc (x :: b)) : Asc b := (List.pairwise_cons.1 h).2
theorem asc_cons {x : List Val × Int} {b : Bg} (h1 : ∀ y ∈ b, cmpL x.1 y.1 = -1) (h2 : Asc b) : Asc (x :: b) := List.pairwise_cons.2 ⟨h1, h2⟩
theorem look_add : ∀ (b : Bg) (r : List Val) (n : Int) (s : List Val), Asc b → lookB (addB b r n) s = lookB b s + if cmpL r s = 0 then n else 0
 | [], r, n, s, _ => by
   rw [addB]
   by_cases hn : n = 0
   · subst hn
     simp [lookB]
   · rw [if_neg hn]
     simp [lookB]
 | x :: b, r, n, s, h => by
   rw [addB]
   by_cases h1 : cmpL x.1 r = -1
   · rw [if_pos h1, lookB, lookB, look_add b r n s (asc_tail h)]
     by_cases hs : cmpL x.1 s = 0
     · have e := cmpL_iff.1 hs
       rw [if_pos hs, if_pos hs, if_neg, Int.add_zero]
       intro hr
       rw [← e] at hr
       rw [cmpL_neg r x.1, hr] at h1
       cases h1
     · rw [if_neg hs, if_neg hs]
   · rw [if_neg h1]
     by_cases h2 : cmpL x.1 r = 0
     · have e := cmpL_iff.1 h2
       rw [if_pos h2]
       by_cases hs : cmpL r s = 0
       · have es := cmpL_iff.1 hs
         have hl : lookB b s = 0 := look_none b s fun y hy => by rw [← es, ← e]; exact asc_head h y hy
         rw [if_pos hs, lookB, e, if_pos hs]
         by_cases hz : n + x.2 = 0
         · rw [if_pos hz, hl]; omega
         · rw [if_neg hz, lookB, if_pos hs]; omega
       · rw [if_neg hs, lookB, e, if_neg hs, Int.add_zero]
         by_cases hz : n + x.2 = 0
         · rw [if_pos hz]
         · rw [if_neg hz, lookB, if_neg hs]
     · rw [if_neg h2]
       have hlt := cmpL_one h1 h2
       by_cases hs : cmpL r s = 0
       · have es := cmpL_iff.1 hs
         have hl : lookB (x :: b) s = 0 := look_none _ s fun y hy => by
          rw [← es]
          rcases List.mem_cons.1 hy with rfl | hy
          · exact hlt
          · exact cmpL_trans hlt (asc_head h y hy)
         rw [if_pos hs, hl]
         by_cases hz : n = 0
         · rw [if_pos hz, hl, hz]; rfl
         · rw [if_neg hz, lookB, if_pos hs]; omega
       · rw [if_neg hs, Int.add_zero]
         by_cases hz : n = 0
         · rw [if_pos hz]
         · rw [if_neg hz, look_cons_ne (x := (r, n)) hs]
theorem add_above : ∀ (b : Bg) (r : List Val) (n : Int) (k : List Val), (∀ x ∈ b, cmpL k x.1 = -1) → cmpL k r = -1 → ∀ x ∈ addB b r n, cmpL k x.1 = -1
 | [], r, n, k, _, hr, x, hx => by
   rw [addB] at hx
   split at hx
   · cases hx
   · rw [List.mem_singleton] at hx; rw [hx]; exact hr
 | y :: b, r, n, k, hb, hr, x, hx => by
   have hb' : ∀ z ∈ b, cmpL k z.1 = -1 := fun z hz => hb z (List.mem_cons_of_mem _ hz)
   rw [addB] at hx
   split at hx
   · rcases List.mem_cons.1 hx with rfl | hx
     · exact hb x (by simp)
     · exact add_above b r n k hb' hr x hx
   · split at hx
     · split at hx
       · exact hb' x hx
       · rcases List.mem_cons.1 hx with rfl | hx
         · exact hr
         · exact hb' x hx
     · split at hx
       · exact hb x hx
       · rcases List.mem_cons.1 hx with rfl | hx
         · exact hr
         · exact hb x hx
theorem asc_add : ∀ (b : Bg) (r : List Val) (n : Int), Asc b → Asc (addB b r n)
 | [], r, n, _ => by
   rw [addB]
   split
   · exact List.Pairwise.nil
   · exact List.pairwise_singleton _ _
 | x :: b, r, n, h => by
   rw [addB]
   by_cases h1 : cmpL x.1 r = -1
   · rw [if_pos h1]
     exact asc_cons (add_above b r n x.1 (asc_head h) h1) (asc_add b r n (asc_tail h))
   · rw [if_neg h1]
     by_cases h2 : cmpL x.1 r = 0
     · have e := cmpL_iff.1 h2
       rw [if_pos h2]
       split
       · exact asc_tail h
       · exact asc_cons (fun y hy => by rw [← e]; exact asc_head h y hy) (asc_tail h)
     · have hlt := cmpL_one h1 h2
       rw [if_neg h2]
       split
       · exact h
       · refine asc_cons (fun y hy => ?_) h
         rcases List.mem_cons.1 hy with rfl | hy
         · exact hlt
         · exact cmpL_trans hlt (asc_head h y hy)
theorem nz_add : ∀ (b : Bg) (r : List Val) (n : Int), NZ b → NZ (addB b r n)
 | [], r, n, _ => by
   rw [addB]
   split
   · exact fun x hx => by cases hx
   · rename_i hn
     intro x hx
     rw [List.mem_singleton] at hx
     rw [hx]
     exact hn
 | y :: b, r, n, h => by
   have hb : NZ b := fun x hx => h x (List.mem_cons_of_mem _ hx)
   rw [addB]
   split
   · intro x hx
     rcases List.mem_cons.1 hx with rfl | hx
     · exact h x (by simp)
     · exact nz_add b r n hb x hx
   · split
     · split
       · exact hb
       · rename_i hn
         intro x hx
         rcases List.mem_cons.1 hx with rfl | hx
         · exact hn
         · exact hb x hx
     · split
       · exact h
       · rename_i hn
         intro x hx
         rcases List.mem_cons.1 hx with rfl | hx
         · exact hn
         · exact h x hx
theorem bag_ext : ∀ (a b : Bg), Asc a → Asc b → NZ a → NZ b → (∀ s, lookB a s = lookB b s) → a = b
 | [], [], _, _, _, _, _ => rfl
 | [], y :: b, _, _, _, hn, h => by
   have := h y.1
   rw [lookB, lookB, if_pos (cmpL_same _)] at this
   exact absurd this.symm (hn y (by simp))
 | x :: a, [], _, _, hn, _, h => by
   have := h x.1
   rw [lookB, lookB, if_pos (cmpL_same _)] at this
   exact absurd this (hn x (by simp))
 | x :: a, y :: b, ha, hb, na, nb, h => by
   have hx := h x.1
   have hy := h y.1
   rw [lookB, if_pos (cmpL_same _)] at hx
   rw [lookB.eq_def (y :: b) y.1] at hy
   simp only [cmpL_same, if_true] at hy
   by_cases h1 : cmpL x.1 y.1 = 0
   · have e := cmpL_iff.1 h1
     have h2 : x.2 = y.2 := by rw [lookB, ← e, if_pos (cmpL_same _)] at hx; exact hx
     have hxy : x = y := Prod.ext e h2
     subst hxy
     rw [bag_ext a b (asc_tail ha) (asc_tail hb) (fun z hz => na z (List.mem_cons_of_mem _ hz)) (fun z hz => nb z (List.mem_cons_of_mem _ hz)) fun s => ?_]
     by_cases hs : cmpL x.1 s = 0
     · have es := cmpL_iff.1 hs
       rw [← es, look_none a x.1 (asc_head ha), look_none b x.1 (asc_head hb)]
     · have := h s
       rwa [look_cons_ne hs, look_cons_ne hs] at this
   · exfalso
     by_cases h2 : cmpL x.1 y.1 = -1
     · rw [look_none (y :: b) x.1 (fun z hz => by
        rcases List.mem_cons.1 hz with rfl | hz
        · exact h2
        · exact cmpL_trans h2 (asc_head hb z hz))] at hx
       exact na x (by simp) hx
     · have h3 := cmpL_one h2 h1
       rw [look_none (x :: a) y.1 (fun z hz => by
        rcases List.mem_cons.1 hz with rfl | hz
        · exact h3
        · exact cmpL_trans h3 (asc_head ha z hz))] at hy
       exact nb y (by simp) hy.symm
def sumB : Bg → List Val → Int
 | [], _ => 0
 | x :: b, s => (if cmpL x.1 s = 0 then x.2 else 0) + sumB b s
theorem sum_none (b : Bg) (r : List Val) (h : ∀ x ∈ b, cmpL r x.1 = -1) : sumB b r = 0 := by
 induction b with
 | nil => rfl
 | cons x b ih =>
   rw [sumB, ih fun y hy => h y (List.mem_cons_of_mem _ hy), if_neg]
   · rfl
   · intro e
     have := h x (by simp)
     rw [cmpL_neg x.1 r, e] at this
     cases this
theorem sum_look : ∀ (b : Bg) (s : List Val), Asc b → sumB b s = lookB b s
 | [], _, _ => rfl
 | x :: b, s, h => by
   rw [sumB, lookB]
   by_cases hs : cmpL x.1 s = 0
   · have e := cmpL_iff.1 hs
     rw [if_pos hs, if_pos hs, ← e, sum_none b x.1 (asc_head h), Int.add_zero]
   · rw [if_neg hs, if_neg hs, sum_look b s (asc_tail h), Int.zero_add]
def bothB (a b : Bg) : Bg := b.foldl (fun a x => addB a x.1 x.2) a
theorem both_cons (a : Bg) (x : List Val × Int) (b : Bg) : bothB a (x :: b) = bothB (addB a x.1 x.2) b := rfl
theorem asc_both : ∀ (b a : Bg), Asc a → Asc (bothB a b)
 | [], _, h => h
 | x :: b, a, h => asc_both b _ (asc_add a x.1 x.2 h)
theorem nz_both : ∀ (b a : Bg), NZ a → NZ (bothB a b)
 | [], _, h => h
 | x :: b, a, h => nz_both b _ (nz_add a x.1 x.2 h)
theorem look_both : ∀ (b a : Bg) (s : List Val), Asc a → lookB (bothB a b) s = lookB a s + sumB b s
 | [], a, s, _ => by rw [sumB, Int.add_zero]; rfl
 | x :: b, a, s, h => by
   rw [both_cons, look_both b _ s (asc_add a x.1 x.2 h), look_add a x.1 x.2 s h, sumB]
   omega
def plusL (l : List Bg) : Bg := l.foldl bothB []
def sumL : List Bg → List Val → Int
 | [], _ => 0
 | b :: l, s => sumB b s + sumL l s
theorem plus_go : ∀ (l : List Bg) (a : Bg) (s : List Val), Asc a → Asc (l.foldl bothB a) ∧ lookB (l.foldl bothB a) s = lookB a s + sumL l s
 | [], a, s, h => ⟨h, by rw [sumL, Int.add_zero]; rfl⟩
 | b :: l, a, s, h => by
   have h2 := plus_go l (bothB a b) s (asc_both b a h)
   refine ⟨h2.1, ?_⟩
   show lookB (l.foldl bothB (bothB a b)) s = _
   rw [h2.2, look_both b a s h, sumL]
   omega
theorem nz_go : ∀ (l : List Bg) (a : Bg), NZ a → NZ (l.foldl bothB a)
 | [], _, h => h
 | b :: l, a, h => nz_go l (bothB a b) (nz_both b a h)
theorem asc_plus (l : List Bg) : Asc (plusL l) := (plus_go l [] [] List.Pairwise.nil).1
theorem nz_plus (l : List Bg) : NZ (plusL l) := nz_go l [] (fun x hx => by cases hx)
theorem look_plus (l : List Bg) (s : List Val) : lookB (plusL l) s = sumL l s := by
 have := (plus_go l [] s List.Pairwise.nil).2
 rw [show lookB [] s = 0 from rfl, Int.zero_add] at this
 exact this
def ofL (l : List (List Val)) : Bg := bothB [] (l.map fun r => (r, 1))
theorem look_of (l : List (List Val)) (s : List Val) : lookB (ofL l) s = sumB (l.map fun r => (r, 1)) s := by
 unfold ofL
 rw [look_both _ [] s List.Pairwise.nil, show lookB [] s = 0 from rfl, Int.zero_add]
theorem sum_append : ∀ (a b : Bg) (s : List Val), sumB (a ++ b) s = sumB a s + sumB b s
 | [], b, s => by rw [List.nil_append, sumB, Int.zero_add]
 | x :: a, b, s => by rw [List.cons_append, sumB, sumB, sum_append a b s]; omega
def negB (b : Bg) : Bg := b.map fun x => (x.1, -x.2)
theorem asc_neg {b : Bg} (h : Asc b) : Asc (negB b) := by
 unfold negB Asc
 rw [List.pairwise_map]
 exact h
theorem nz_neg {b : Bg} (h : NZ b) : NZ (negB b) := by
 intro x hx
 obtain ⟨y, hy, rfl⟩ := List.mem_map.1 hx
 have := h y hy
 show -y.2 ≠ 0
 omega
theorem sum_neg : ∀ (b : Bg) (s : List Val), sumB (negB b) s = -sumB b s
 | [], _ => rfl
 | x :: b, s => by
   show (if cmpL x.1 s = 0 then -x.2 else 0) + sumB (negB b) s = -((if cmpL x.1 s = 0 then x.2 else 0) + sumB b s)
   rw [sum_neg b s]
   split <;> omega
def okC (x : List Val × Int) : Bool := !(x.2 == 0) && (decide (-1000000000 ≤ x.2) && (decide (x.2 ≤ 1000000000) && mayR x.1))
def risesB : Bg → Bool
 | x :: y :: b => decide (cmpL x.1 y.1 < 0) && risesB (y :: b)
 | _ => true
def mayBag (b : Bg) : Bool := b.all okC && risesB b
theorem rises_asc : ∀ b : Bg, risesB b = true → Asc b
 | [], _ => List.Pairwise.nil
 | [x], _ => List.pairwise_singleton _ _
 | x :: y :: b, h => by
   rw [risesB, Bool.and_eq_true, decide_eq_true_eq] at h
   have h2 := rises_asc (y :: b) h.2
   have h1 : cmpL x.1 y.1 = -1 := by rcases cmpL_range x.1 y.1 with e | e | e <;> omega
   refine asc_cons (fun z hz => ?_) h2
   rcases List.mem_cons.1 hz with rfl | hz
   · exact h1
   · exact cmpL_trans h1 (asc_head h2 z hz)
theorem asc_rises : ∀ b : Bg, Asc b → risesB b = true
 | [], _ => rfl
 | [x], _ => rfl
 | x :: y :: b, h => by
   rw [risesB, asc_rises (y :: b) (asc_tail h), Bool.and_true, asc_head h y (by simp)]
   rfl
theorem may_asc {b : Bg} (h : mayBag b = true) : Asc b := by
 unfold mayBag at h
 rw [Bool.and_eq_true] at h
 exact rises_asc b h.2
theorem may_okC {b : Bg} (h : mayBag b = true) : ∀ x ∈ b, okC x = true := by
 unfold mayBag at h
 rw [Bool.and_eq_true, List.all_eq_true] at h
 exact h.1
theorem okC_parts {x : List Val × Int} (h : okC x = true) : x.2 ≠ 0 ∧ -1000000000 ≤ x.2 ∧ x.2 ≤ 1000000000 ∧ mayR x.1 = true := by
 unfold okC at h
 simp only [Bool.and_eq_true, Bool.not_eq_true', decide_eq_true_eq, beq_eq_false_iff_ne] at h
 exact h
theorem may_nz {b : Bg} (h : mayBag b = true) : NZ b := fun x hx => (okC_parts (may_okC h x hx)).1
end Go.Proofs.YtldaoepemofhlaaGreatDoor
namespace Go.Proofs.YtldaoepemofhlaaGreatDoor
open Go
def sub1 (c : UInt8) (new : List UInt8) : List UInt8 → List UInt8
 | [] => []
 | b :: l => if b = c then new ++ sub1 c new l else b :: sub1 c new l
theorem index_nil (c : UInt8) : Lib.index [] [c] = -1 := rfl
theorem index_same (c : UInt8) (l : List UInt8) : Lib.index (c :: l) [c] = 0 := by simp [Lib.index]
theorem index_other (b c : UInt8) (l : List UInt8) (h : b ≠ c) : Lib.index (b :: l) [c] = if Lib.index l [c] == -1 then -1 else Lib.index l [c] + 1 := by
 rw [Lib.index]
 have : ([c].isPrefixOf (b :: l)) = false := by simp [List.isPrefixOf]; exact fun e => h e.symm
 rw [this]; rfl
theorem replaceK_nil (c : UInt8) (new : List UInt8) : ∀ k, Lib.replaceK [c] new k [] = []
 | 0 => rfl
 | k + 1 => by rw [Lib.replaceK, index_nil]; rfl
theorem replaceK_same (c : UInt8) (new l : List UInt8) (k : Nat) : Lib.replaceK [c] new (k + 1) (c :: l) = new ++ Lib.replaceK [c] new k l := by
 rw [Lib.replaceK_hit [c] new k (c :: l) 0 (index_same c l)]
 simp
theorem replaceK_other (b c : UInt8) (new l : List UInt8) (h : b ≠ c) : ∀ k, Lib.replaceK [c] new k (b :: l) = b :: Lib.replaceK [c] new k l
 | 0 => rfl
 | k + 1 => by
   have hge := Lib.index_ge l [c]
   by_cases hm : Lib.index l [c] = -1
   · have e1 : Lib.index (b :: l) [c] = -1 := by rw [index_other b c l h, hm]; rfl
     rw [Lib.replaceK, Lib.replaceK, e1, hm]; rfl
   · have hne : (Lib.index l [c] == -1) = false := by simpa using hm
     obtain ⟨i, hi⟩ : ∃ i : Nat, Lib.index l [c] = i := ⟨(Lib.index l [c]).toNat, by omega⟩
     have e1 : Lib.index (b :: l) [c] = ((i + 1 : Nat) : Int) := by rw [index_other b c l h, hne, hi]; simp
     rw [Lib.replaceK_hit [c] new k (b :: l) (i + 1) e1, Lib.replaceK_hit [c] new k l i hi]
     have e : i + 1 + [c].length = (i + [c].length) + 1 := by simp
     rw [e, List.drop_succ_cons, List.take_succ_cons]
     simp
theorem replaceK_sub1 (c : UInt8) (new : List UInt8) : ∀ (s : List UInt8) (k : Nat), s.count c ≤ k → Lib.replaceK [c] new k s = sub1 c new s
 | [], k, _ => replaceK_nil c new k
 | b :: l, k, h => by
   by_cases e : b = c
   · subst e
     rw [List.count_cons_self] at h
     obtain ⟨k, rfl⟩ : ∃ j, k = j + 1 := ⟨k - 1, by omega⟩
     rw [replaceK_same, replaceK_sub1 b new l k (by omega), sub1, if_pos rfl]
   · rw [List.count_cons_of_ne e] at h
     rw [replaceK_other b c new l e, replaceK_sub1 c new l k h, sub1, if_neg e]
theorem replaceAll_sub1 (c : UInt8) (new s : List UInt8) (h : [c] ≠ new) : Lib.replaceAll s [c] new = sub1 c new s := by
 have hne : ([c] == new) = false := by simpa using h
 unfold Lib.replaceAll Lib.replace
 rw [hne]
 simp only [Bool.false_eq_true, if_false]
 refine replaceK_sub1 c new s _ ?_
 unfold Lib.replaceNum
 rw [if_pos (.inl (by decide)), Lib.count_one]
 exact Nat.le_refl _
theorem sub1_length (c : UInt8) (new : List UInt8) : ∀ s : List UInt8, (sub1 c new s).length ≤ s.length * (new.length + 1)
 | [] => by simp [sub1]
 | b :: l => by
   have ih := sub1_length c new l
   rw [sub1, List.length_cons, Nat.add_mul, Nat.one_mul]
   by_cases e : b = c
   · rw [if_pos e, List.length_append]; omega
   · rw [if_neg e, List.length_cons]; omega
theorem sub1_inj (c : UInt8) : ∀ s t : List UInt8, sub1 c [c, c] s = sub1 c [c, c] t → s = t
 | [], [], _ => rfl
 | [], b :: l, h => by
   rw [sub1, sub1] at h
   by_cases e : b = c
   · rw [if_pos e] at h; simp at h
   · rw [if_neg e] at h; simp at h
 | b :: l, [], h => by
   rw [sub1, sub1] at h
   by_cases e : b = c
   · rw [if_pos e] at h; simp at h
   · rw [if_neg e] at h; simp at h
 | a :: l, b :: r, h => by
   rw [sub1, sub1] at h
   by_cases e1 : a = c <;> by_cases e2 : b = c
   · rw [if_pos e1, if_pos e2] at h
     simp only [List.cons_append, List.nil_append, List.cons.injEq, true_and] at h
     rw [sub1_inj c l r h, e1, e2]
   · rw [if_pos e1, if_neg e2] at h
     simp only [List.cons_append, List.nil_append, List.cons.injEq] at h
     exact absurd h.1.symm e2
   · rw [if_neg e1, if_pos e2] at h
     simp only [List.cons_append, List.nil_append, List.cons.injEq] at h
     exact absurd h.1 e1
   · rw [if_neg e1, if_neg e2] at h
     simp only [List.cons.injEq] at h
     rw [sub1_inj c l r h.2, h.1]
end Go.Proofs.YtldaoepemofhlaaGreatDoor
