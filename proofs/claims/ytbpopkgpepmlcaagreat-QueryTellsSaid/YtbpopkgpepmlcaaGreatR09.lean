/-
  Part 9 of 11 of what the proof leans on: each part below says what it proves, and of what; no condition besides.
-/
import Derived.Test.YtbpopkgpepmlcaaGreatR01
import Derived.Test.YtbpopkgpepmlcaaGreatR02
import Derived.Test.YtbpopkgpepmlcaaGreatR03
import Derived.MapKept
import Derived.Maps.OwnOps
import Derived.Deep.RegionHeld3
set_option linter.unusedVariables false
set_option linter.unusedSimpArgs false
namespace Go.Proofs.YtbpopkgpepmlcaaGreat
open Go Go.RowKit Go.MapKept
set_option maxRecDepth 100000
def MapV (w : World) (b : Nat) (l : List (Val × Value)) : Prop := ∃ es clk, w.heap[b]? = some (.map es clk) ∧ ((∀ e ∈ es.toList, e.born < clk) ∧ (es.toList.map (·.born)).Nodup) ∧ es.toList.map (fun e => (e.key, e.val)) = l.map (fun p => (p.1.v, p.2))
theorem MapV.lt {w : World} {b : Nat} {l : List (Val × Value)} (h : MapV w b l) : b < w.heap.size := by
 obtain ⟨es, clk, hb, _⟩ := h
 exact (Array.getElem?_eq_some_iff.1 hb).1
theorem MapV.same {w w' : World} {b : Nat} {l : List (Val × Value)} (h : MapV w b l) (hb : w'.heap[b]? = w.heap[b]?) : MapV w' b l := by
 obtain ⟨es, clk, h1, h2⟩ := h
 exact ⟨es, clk, hb.trans h1, h2⟩
theorem MapV.after {w w' : World} {b : Nat} {l : List (Val × Value)} (h : MapV w b l) (hb : Below w.heap.size w w') : MapV w' b l := h.same (hb.block b h.lt)
theorem MapV.made (w : World) : MapV (w.alloc (.map #[] 0)) w.heap.size [] := ⟨#[], 0, (heap_alloc w _).1, ⟨nofun, List.nodup_nil⟩, rfl⟩
def getV (l : List (Val × Value)) (k : Val) : Option Value := match l with
 | [] => none
 | p :: l => if k.eq p.1 then some p.2 else getV l k
def putV (l : List (Val × Value)) (k : Val) (v : Value) : List (Val × Value) := match l with
 | [] => [(k, v)]
 | p :: l => if k.eq p.1 then (k, v) :: l else p :: putV l k v
theorem run_checkV (w : World) (em : Bool) (k n : Int) (s : ByteArray) : (Instr.checkKey em 10000 46 (.agg #[.int .i64 k, .int .i64 n, .string s])).run Tryz.prog w = .ok () w := by
 unfold Instr.checkKey
 simp [go_sem, Tryz.underlying46]
 unfold Instr.checkKey
 simp [go_sem, Tryz.underlying3, Tryz.underlying9]
theorem run_eqK (w : World) (a b : Val) : (Op.equal 46 a.v b.v).run Tryz.prog w = .ok (a.eq b) w := run_eqIn w a.k a.n b.k b.n a.s b.s
theorem run_asking (k : Val) (w : World) : ∀ (es : List MapEntry) (l : List (Val × Value)) (i : Nat), es.map (fun e => (e.key, e.val)) = l.map (fun p => (p.1.v, p.2)) →
 ((Instr.findAsking 46 k.v es i).run Tryz.prog w = .ok none w ∧ getV l k = none ∧ ∀ v, putV l k v = l ++ [(k, v)]) ∨
 ∃ j p, (Instr.findAsking 46 k.v es i).run Tryz.prog w = .ok (some (i + j, p.2)) w ∧ getV l k = some p.2 ∧ l[j]? = some p ∧ p.1 = k ∧ ∀ v, putV l k v = l.set j (k, v)
 | [], [], i, _ => .inl ⟨by simp [Instr.findAsking], rfl, fun _ => rfl⟩
 | [], _ :: _, _, h => by simp at h
 | _ :: _, [], _, h => by simp at h
 | e :: es, p :: l, i, h => by
   simp only [List.map_cons, List.cons.injEq, Prod.mk.injEq] at h
   obtain ⟨⟨h1, h2⟩, h3⟩ := h
   cases hk : k.eq p.1
   · rcases run_asking k w es l (i + 1) h3 with ⟨h4, h5, h6⟩ | ⟨j, q, h4, h5, h6, h7, h8⟩
     · refine .inl ⟨?_, ?_, fun v => ?_⟩
       · unfold Instr.findAsking
         simp only [Sem.run_bind, h1, run_eqK, hk, Result.andThen_ok, h4, Bool.false_eq_true, if_false]
       · rw [getV, hk]; exact h5
       · rw [putV, hk, h6 v]; rfl
     · refine .inr ⟨j + 1, q, ?_, ?_, h6, h7, fun v => ?_⟩
       · unfold Instr.findAsking
         simp only [Sem.run_bind, h1, run_eqK, hk, Result.andThen_ok, h4, Bool.false_eq_true, if_false]
         rw [show i + 1 + j = i + (j + 1) by omega]
       · rw [getV, hk]; exact h5
       · rw [putV, hk, h8 v]; rfl
   · refine .inr ⟨0, p, ?_, ?_, rfl, (Val.eq_iff.1 hk).symm, fun v => ?_⟩
     · unfold Instr.findAsking
       simp only [Sem.run_bind, h1, run_eqK, hk, Result.andThen_ok, if_true, Sem.run_pure, h2, Nat.add_zero]
     · rw [getV, hk]; rfl
     · rw [putV, hk]; rfl
theorem run_findV (k : Val) (w : World) (es : List MapEntry) (l : List (Val × Value)) (h : es.map (fun e => (e.key, e.val)) = l.map (fun p => (p.1.v, p.2))) :
 ((Instr.findKey 46 k.v es).run Tryz.prog w = .ok none w ∧ getV l k = none ∧ ∀ v, putV l k v = l ++ [(k, v)]) ∨
 ∃ j p, (Instr.findKey 46 k.v es).run Tryz.prog w = .ok (some (j, p.2)) w ∧ getV l k = some p.2 ∧ l[j]? = some p ∧ p.1 = k ∧ ∀ v, putV l k v = l.set j (k, v) := by
 cases es with
 | nil =>
   cases l with
   | nil => exact .inl ⟨by simp [Instr.findKey, run_underlying Tryz.underlying46, Instr.findNow], rfl, fun _ => rfl⟩
   | cons _ _ => simp at h
 | cons e es =>
   have hf : (Instr.findKey 46 k.v (e :: es)).run Tryz.prog w = (Instr.findAsking 46 k.v (e :: es) 0).run Tryz.prog w := by
    unfold Instr.findKey
    simp only [Sem.run_bind, run_underlying Tryz.underlying46, Result.andThen_ok, Instr.findNow, Instr.sameNow]
   rw [hf]
   rcases run_asking k w (e :: es) l 0 h with h1 | ⟨j, p, h1, h2⟩
   · exact .inl h1
   · exact .inr ⟨j, p, by rw [h1, Nat.zero_add], h2⟩
section
variable {MT E : TypeId}
theorem run_lookV {w : World} {b : Nat} {l : List (Val × Value)} (hm : Tryz.prog.underlying MT = some (.map 46 E)) (z : Value) (hz : (zeroValue E).run Tryz.prog w = .ok z w) (h : MapV w b l) (k n : Int) (s : ByteArray) :
 (Instr.lookup MT (.map (some b)) (.agg #[.int .i64 k, .int .i64 n, .string s]) false).run Tryz.prog w = .ok ((getV l ⟨k, n, s⟩).getD z) w := by
 obtain ⟨es, clk, hb, _, he⟩ := h
 rcases run_findV ⟨k, n, s⟩ w es.toList l he with ⟨h1, h2, _⟩ | ⟨j, p, h1, h2, _⟩
 · rw [h2]
   simp only [Val.v] at h1
   simp [Instr.lookup, run_underlying hm, MapKept.run_getObj_map hb, run_checkV, h1, hz, Result.andThen]
 · rw [h2]
   simp only [Val.v] at h1
   simp [Instr.lookup, run_underlying hm, MapKept.run_getObj_map hb, run_checkV, h1, Result.andThen]
theorem run_staysV (w : World) (a : Val) : (Instr.keyThatStays a.v a.v).run Tryz.prog w = .ok a.v w := by
 have h : Instr.sameBits 10000 a.v a.v = true := by
  simp [Instr.sameBits, Val.v, bytes_beq]
 unfold Instr.keyThatStays
 rw [h]
 simp
def EntV (w : World) (b : Nat) (l : List (Val × Value)) (k : Val) (st : Int) : Prop := ∃ (es : Array MapEntry) (clk : Nat) (l1 : List (Val × Value)) (j : Nat) (e : MapEntry), w.heap[b]? = some (.map es clk) ∧ ((∀ e ∈ es.toList, e.born < clk) ∧ (es.toList.map (·.born)).Nodup) ∧
 es.toList.map (fun e => (e.key, e.val)) = l1.map (fun p => (p.1.v, p.2)) ∧ es.toList[j]? = some e ∧ (e.born : Int) = st ∧ e.key = k.v ∧ ∀ v, putV l k v = l1.set j (k, v)
theorem EntV.lt {w : World} {b : Nat} {l : List (Val × Value)} {k : Val} {st : Int} (h : EntV w b l k st) : b < w.heap.size := by
 obtain ⟨es, clk, _, _, _, hb, _⟩ := h
 exact (Array.getElem?_eq_some_iff.1 hb).1
theorem EntV.same {w w' : World} {b : Nat} {l : List (Val × Value)} {k : Val} {st : Int} (h : EntV w b l k st) (hb : w'.heap[b]? = w.heap[b]?) : EntV w' b l k st := by
 obtain ⟨es, clk, l1, j, e, h1, h2⟩ := h
 exact ⟨es, clk, l1, j, e, hb.trans h1, h2⟩
theorem grown_set {w : World} {b : Nat} {o0 : Obj} (hb : w.heap[b]? = some o0) (o : Obj) : w.grownBy { w with heap := w.heap.setIfInBounds b o } (some b) := ⟨rfl, rfl, rfl, by simp, fun i _ hi => (heap_set hb).2 i (fun e => hi (by rw [e]))⟩
theorem run_entryV {w : World} {b : Nat} {l : List (Val × Value)} (hm : Tryz.prog.underlying MT = some (.map 46 E)) (z : Value) (hz : (zeroValue E).run Tryz.prog w = .ok z w) (h : MapV w b l) (k : Val) :
 ∃ (w' : World) (st : Int), (Instr.mapEntry MT (.map (some b)) k.v).run Tryz.prog w = .ok (.tuple #[(getV l k).getD z, .int .i64 st]) w' ∧ EntV w' b l k st ∧ w.grownBy w' (some b) ∧ w'.heap.size = w.heap.size := by
 obtain ⟨es, clk, hb, ⟨hs1, hs2⟩, he⟩ := h
 have hc := run_checkV w false k.k k.n k.s
 rcases run_findV k w es.toList l he with ⟨h1, h2, h3⟩ | ⟨j, p, h1, h2, h3, h4, h5⟩
 · refine ⟨{ w with heap := w.heap.setIfInBounds b (.map (es.push ⟨k.v, z, clk⟩) (clk + 1)) }, clk, ?_, ⟨_, _, l ++ [(k, z)], es.size, ⟨k.v, z, clk⟩, (heap_set hb).1, ⟨?_, ?_⟩, ?_, ?_, rfl, rfl, fun v => ?_⟩, grown_set hb _, by simp⟩
   · rw [h2]
     simp only [Val.v] at h1 hc ⊢
     simp [Instr.mapEntry, run_underlying hm, MapKept.run_getObj_map hb, hc, h1, hz, MapKept.run_setObj_map _ hb, Result.andThen, goInt]
   · intro e he1
     simp only [Array.toList_push, List.mem_append, List.mem_singleton] at he1
     rcases he1 with he1 | rfl
     · exact Nat.lt_succ_of_lt (hs1 e he1)
     · exact Nat.lt_succ_self _
   · simp only [Array.toList_push, List.map_append, List.map_cons, List.map_nil]
     refine List.nodup_append.2 ⟨hs2, by simp, ?_⟩
     intro a ha c hc1
     rw [List.mem_singleton] at hc1
     subst hc1
     obtain ⟨x, hx, rfl⟩ := List.mem_map.1 ha
     exact Nat.ne_of_lt (hs1 x hx)
   · simp [he]
   · simp
   · have hlen : l.length = es.size := by
      have := congrArg List.length he
      simpa using this.symm
     rw [h3 v, List.set_append_right _ _ (by omega), hlen, Nat.sub_self]
     rfl
 · have hj : ∃ e0, es[j]? = some e0 ∧ e0.key = k.v := by
    have h6 := congrArg (fun t => t[j]?) he
    simp only [List.getElem?_map, h3, Option.map_some, Array.getElem?_toList] at h6
    cases h7 : es[j]? with
    | none => rw [h7] at h6; cases h6
    | some e0 =>
      rw [h7] at h6
      simp only [Option.map_some, Option.some.injEq, Prod.mk.injEq] at h6
      exact ⟨e0, rfl, by rw [h6.1, h4]⟩
   obtain ⟨e0, hj, hk0⟩ := hj
   have hmod : es.modify j (fun e => { e with key := k.v }) = es := by
    apply Array.ext'
    apply List.ext_getElem?
    intro i
    rw [Array.getElem?_toList, Array.getElem?_modify, Array.getElem?_toList]
    by_cases hij : j = i
    · subst hij
      rw [if_pos rfl, hj, Option.map_some, ← hk0]
    · rw [if_neg hij]
   refine ⟨{ w with heap := w.heap.setIfInBounds b (.map es clk) }, e0.born, ?_, ⟨es, clk, l, j, e0, (heap_set hb).1, ⟨hs1, hs2⟩, he, by rw [Array.getElem?_toList]; exact hj, rfl, hk0, h5⟩, grown_set hb _, by simp⟩
   rw [h2]
   have hs := run_staysV w k
   simp only [Val.v] at h1 hc hs hk0 hmod ⊢
   simp [Instr.mapEntry, run_underlying hm, MapKept.run_getObj_map hb, hc, h1, hj, hk0, hs, hmod, MapKept.run_setObj_map _ hb, Result.andThen, goInt]
theorem run_storeV {w : World} {b : Nat} {l : List (Val × Value)} {k : Val} {st : Int} (h : EntV w b l k st) (v : Value) :
 ∃ w', (Instr.entryStore MT (.map (some b)) (.int .i64 st) v).run Tryz.prog w = .ok () w' ∧ MapV w' b (putV l k v) ∧ w.grownBy w' (some b) ∧ w'.heap.size = w.heap.size := by
 obtain ⟨es, clk, l1, j, e, hb, ⟨hs1, hs2⟩, he, hj, rfl, hk, hp⟩ := h
 have hlt : j < es.toList.length := (List.getElem?_eq_some_iff.1 hj).1
 have hje : es.toList[j] = e := (List.getElem?_eq_some_iff.1 hj).2
 have hf : es.findIdx? (fun x => (x.born : Int) == (e.born : Int)) = some j := by
  have hta := List.findIdx?_toArray (fun x : MapEntry => (x.born : Int) == (e.born : Int)) es.toList
  rw [Array.toArray_toList] at hta
  rw [hta, List.findIdx?_eq_some_iff_getElem]
  refine ⟨hlt, by rw [hje]; simp, fun i hi => ?_⟩
  have hne : es.toList[i].born ≠ es.toList[j].born := by
   have h1 := List.pairwise_iff_getElem.1 hs2 i j (by rw [List.length_map]; omega) (by rw [List.length_map]; omega) hi
   simpa using h1
  rw [hje] at hne
  simp only [beq_iff_eq]
  omega
 refine ⟨{ w with heap := w.heap.setIfInBounds b (.map (es.modify j fun e => { e with val := v }) clk) }, ?_, ⟨_, _, (heap_set hb).1, ⟨?_, ?_⟩, ?_⟩, grown_set hb _, by simp⟩
 · simp [Instr.entryStore, MapKept.run_getObj_map hb, asInt, asIntOf, hf, MapKept.run_setObj_map _ hb, Result.andThen]
 · intro x hx
   obtain ⟨i, hi⟩ := List.mem_iff_getElem?.1 hx
   rw [Array.getElem?_toList, Array.getElem?_modify] at hi
   split at hi
   · cases h1 : es[i]? with
     | none => rw [h1] at hi; cases hi
     | some y =>
       rw [h1] at hi
       cases hi
       exact hs1 y (by rw [Array.mem_toList_iff]; exact Array.mem_of_getElem? h1)
   · exact hs1 x (by rw [Array.mem_toList_iff]; exact Array.mem_of_getElem? hi)
 · have : (es.modify j fun e => { e with val := v }).toList.map (·.born) = es.toList.map (·.born) := by
    apply List.ext_getElem?
    intro i
    rw [List.getElem?_map, List.getElem?_map, Array.getElem?_toList, Array.getElem?_toList, Array.getElem?_modify]
    split
    · cases es[i]? <;> rfl
    · rfl
   rw [this]
   exact hs2
 · rw [hp v]
   apply List.ext_getElem?
   intro i
   have h6 := congrArg (fun t => t[i]?) he
   simp only [List.getElem?_map, Array.getElem?_toList] at h6
   rw [List.getElem?_map, Array.getElem?_toList, Array.getElem?_modify, List.getElem?_map, List.getElem?_set]
   by_cases hij : j = i
   · subst hij
     rw [if_pos rfl, if_pos rfl]
     rw [Array.getElem?_toList] at hj
     have hl : j < l1.length := by
      have := congrArg List.length he
      simp only [List.length_map] at this
      omega
     rw [hj]
     simp [hl, hk]
   · rw [if_neg hij, if_neg hij]
     exact h6
end
theorem wpList_entryV {MT E : TypeId} {ops : Array Oper} {rest : List Oper} {o : Oper} {a : Act} {Q : Exit → Act → World → Prop} {w : World} (hgd : o.guard = none) (m x : Operand) (ho : o.op = .mapEntry MT m x)
 (hm : Tryz.prog.underlying MT = some (.map 46 E)) (z : Value) (hz : (zeroValue E).run Tryz.prog w = .ok z w) (b : Nat) (l : List (Val × Value)) (k : Val) (he : a.eval m = .map (some b)) (hx : a.eval x = k.v) (hM : MapV w b l)
 (h : ∀ (w' : World) (st : Int), EntV w' b l k st → w.grownBy w' (some b) → w'.heap.size = w.heap.size → wpList Tryz.prog ops Q rest (a.put o.dst (.tuple #[(getV l k).getD z, .int .i64 st])) w') : wpList Tryz.prog ops Q (o :: rest) a w := by
 refine wpList_plain hgd fun K hK => ?_
 obtain ⟨w', st, hr, h1, h2, h3⟩ := run_entryV hm z hz hM k
 unfold Oper.wp
 simp [execOp, ho, he, hx, hr, Result.andThen]
 exact hK _ _ (h w' st h1 h2 h3)
theorem wpList_storeV {MT : TypeId} {ops : Array Oper} {rest : List Oper} {o : Oper} {a : Act} {Q : Exit → Act → World → Prop} {w : World} (hgd : o.guard = none) (m s x : Operand) (ho : o.op = .entryStore MT m s x)
 (b : Nat) (l : List (Val × Value)) (k : Val) (st : Int) (v : Value) (he : a.eval m = .map (some b)) (hs : a.eval s = .int .i64 st) (hx : a.eval x = v) (hM : EntV w b l k st)
 (h : ∀ w' : World, MapV w' b (putV l k v) → w.grownBy w' (some b) → w'.heap.size = w.heap.size → wpList Tryz.prog ops Q rest (a.put o.dst undef) w') : wpList Tryz.prog ops Q (o :: rest) a w := by
 refine wpList_plain hgd fun K hK => ?_
 obtain ⟨w', hr, h1, h2, h3⟩ := run_storeV (MT := MT) hM v
 unfold Oper.wp
 simp [execOp, ho, he, hs, hx, hr, Result.andThen]
 exact hK _ _ (h w' h1 h2 h3)
end Go.Proofs.YtbpopkgpepmlcaaGreat
namespace Go.Proofs.YtbpopkgpepmlcaaGreat
open Go Go.RowKit
set_option maxRecDepth 100000
theorem qcolumn_c (A : Option Addr) (n c : Nat) (xs : List Val) (i : Int) (w : World) (hn : xs.length = n) (hs : Sl w A xs) :
 Calls Tryz.prog 43 #[.slice A n c, .int .i64 i] w fun e w' => e = .returned (atR xs i).v ∧ Below w.heap.size w w' := by
 by_cases h0 : i < 0
 · have e0 : atR xs i = nl := by unfold atR; rw [if_neg (by omega)]
   rw [e0]
   go_enter Tryz.func43, Tryz.ntmps43
   go_wp2
   exact ret_val (a := nl) Tryz.results43 rfl (Bx.new w nl) rfl ⟨rfl, below_one _ _⟩
 · obtain ⟨j, rfl⟩ : ∃ j : Nat, i = j := ⟨i.toNat, by omega⟩
   by_cases h1 : j < n
   · obtain ⟨b, off, x, rfl, hlt, hx, d0, d1, d2⟩ := hs.at3 (k := j) (by omega)
     have e0 : atR xs (j : Int) = x := by unfold atR; rw [if_pos (by omega), Int.toNat_natCast, hx]; rfl
     rw [e0]
     clear e0 hx hs hn
     have h2 : (j : Int) < n := by omega
     go_enter Tryz.func43, Tryz.ntmps43
     go_wp2
     exact ret_val (a := x) Tryz.results43 rfl (Bx.new w x) rfl ⟨rfl, below_one _ _⟩
   · have e0 : atR xs (j : Int) = nl := by unfold atR; rw [if_pos (by omega), Int.toNat_natCast, List.getElem?_eq_none (by omega)]; rfl
     rw [e0]
     clear e0 hs hn
     have h2 : (n : Int) ≤ j := by omega
     go_enter Tryz.func43, Tryz.ntmps43
     go_wp2
     exact ret_val (a := nl) Tryz.results43 rfl (Bx.new w nl) rfl ⟨rfl, below_one _ _⟩
theorem get_put (l : List (Val × Value)) (k : Val) (v : Value) (x : Val) : getV (putV l k v) x = if x.eq k then some v else getV l x := by
 induction l with
 | nil => rfl
 | cons p l ih =>
   rw [putV]
   cases hk : k.eq p.1
   · simp only [Bool.false_eq_true, if_false, getV]
     cases hx : x.eq p.1
     · simp only [Bool.false_eq_true, if_false]; exact ih
     · simp only [if_true]
       rw [if_neg]
       rw [Val.eq_iff.1 hx]
       intro h
       rw [Val.eq_iff.1 h, Val.eq_self] at hk
       cases hk
   · simp only [if_true, getV]
     rw [← Val.eq_iff.1 hk]
     cases hx : x.eq k <;> rfl
def nilS : Value := .slice none 0 0
def atV (l : List (Val × Value)) (x : Val) : Value := (getV l x).getD nilS
theorem putV_at (l : List (Val × Value)) (k : Val) (v : Value) (x : Val) : atV (putV l k v) x = if x.eq k then v else atV l x := by
 unfold atV
 rw [get_put]
 split <;> rfl
structure Grp (w : World) (B b : Nat) (l : List (Val × Value)) (F : Val → List Ct) : Prop where
 map : MapV w b l
 each : ∀ x, OwnG w B 44 2 rdC (atV l x) (F x)
 apart : ∀ x y, x ≠ y → ∀ g, (atV l x).ownBlock = some g → (atV l y).ownBlock ≠ some g
 bB : b < B
theorem Grp.after {w w' : World} {B b : Nat} {l : List (Val × Value)} {F : Val → List Ct} (h : Grp w B b l F) (hb : Below w.heap.size w w') : Grp w' B b l F := ⟨h.map.after hb, fun x => (h.each x).after hb, h.apart, h.bB⟩
theorem Grp.ne {w : World} {B b : Nat} {l : List (Val × Value)} {F : Val → List Ct} (h : Grp w B b l F) (x : Val) : ∀ g, (atV l x).ownBlock = some g → g ≠ b := fun g hg => by
 have := ((h.each x).lt g hg).1
 have := h.bB
 omega
theorem SlG.sameAt {α : Type} {rd : α → List Value} {S : Nat} {w w' : World} {g o : Nat} {xs : List α} (h : SlG w (some ⟨g, o, none⟩) S rd xs) (hb : w'.heap[g]? = w.heap[g]?) (hs : w.heap.size ≤ w'.heap.size) : SlG w' (some ⟨g, o, none⟩) S rd xs := by
 rcases h with h | ⟨b, off, hA, hlt, h⟩
 · exact .inl h
 · cases hA
   refine .inr ⟨g, o, rfl, Nat.lt_of_lt_of_le hlt hs, fun i x hx j u hu => ?_⟩
   rw [← h i x hx j u hu]
   simp only [World.cell?, hb]
theorem Grp.step {wr W4 w2 w3 w5 : World} {B b : Nat} {l : List (Val × Value)} {F : Val → List Ct} {y : Val} {c : Ct} {v' : Value} (hg : Grp wr B b l F) (h4 : Below wr.heap.size wr W4) (h2 : W4.grownBy w2 (some b)) (hs2 : w2.heap.size = W4.heap.size)
 (hv : OwnG w3 B 44 2 rdC v' (F y ++ [c])) (h3 : w2.grownBy w3 (atV l y).ownBlock) (hloc : v'.ownBlock = (atV l y).ownBlock ∨ v'.ownBlock = some w2.heap.size) (hM : MapV w5 b (putV l y v')) (h5 : w3.grownBy w5 (some b)) :
 Grp w5 B b (putV l y v') (fun x => if x.eq y then F y ++ [c] else F x) := by
 have hold : ∀ x g, (atV l x).ownBlock = some g → g < wr.heap.size := fun x g hx => ((hg.each x).lt g hx).2
 refine ⟨hM, fun x => ?_, fun x z hne g hx hz => ?_, hg.bB⟩
 · rw [putV_at]
   cases hx : x.eq y
   · rw [if_neg (by simp), if_neg (by simp)]
     refine (hg.each x).same fun k hk => ?_
     have hk1 := hold x k hk
     have hkb := hg.ne x k hk
     have hky : some k ≠ (atV l y).ownBlock := fun e => hg.apart x y (fun e2 => by rw [e2, Val.eq_self] at hx; cases hx) k hk e.symm
     have s4 := h4.size
     have s3 := h3.size
     rw [h5.block k (by omega) (by intro e; cases e; exact hkb rfl), h3.block k (by omega) hky, h2.block k (by omega) (by intro e; cases e; exact hkb rfl), h4.block k hk1]
   · rw [if_pos rfl, if_pos rfl]
     refine hv.same fun k hk => ?_
     have h7 := hv.lt k hk
     have := hg.bB
     exact h5.block k h7.2 (by intro e; cases e; omega)
 · rw [putV_at] at hx hz
   have s4 := h4.size
   cases e1 : x.eq y
   · rw [e1] at hx
     simp only [Bool.false_eq_true, if_false] at hx
     cases e2 : z.eq y
     · rw [e2] at hz
       simp only [Bool.false_eq_true, if_false] at hz
       exact hg.apart x z hne g hx hz
     · rw [e2] at hz
       simp only [if_true] at hz
       rcases hloc with h | h
       · rw [h] at hz
         have := Val.eq_iff.1 e2
         subst this
         exact hg.apart x z hne g hx hz
       · rw [h] at hz
         cases hz
         have := hold x _ hx
         omega
   · rw [e1] at hx
     simp only [if_true] at hx
     have e3 := Val.eq_iff.1 e1
     subst e3
     cases e2 : z.eq x
     · rw [e2] at hz
       simp only [Bool.false_eq_true, if_false] at hz
       rcases hloc with h | h
       · rw [h] at hx
         exact hg.apart x z hne g hx hz
       · rw [h] at hx
         cases hx
         have := hold z _ hz
         omega
     · exact hne (Val.eq_iff.1 e2).symm
def colF (i : Int) (cs : List Ct) (x : Val) : List Ct := cs.filter fun c => x.eq (atR c.h.xs i) && !(x.k == 0)
theorem colF_null {i : Int} {cs : List Ct} {k : Nat} {c : Ct} (hc : cs[k]? = some c) (h0 : (atR c.h.xs i).k = 0) : colF i (cs.take (k + 1)) = colF i (cs.take k) := by
 funext x
 unfold colF
 rw [List.take_add_one, hc, List.filter_append]
 have : ([c].filter fun c => x.eq (atR c.h.xs i) && !(x.k == 0)) = [] := by
  rw [List.filter_cons_of_neg, List.filter_nil]
  intro h
  rw [Bool.and_eq_true] at h
  rw [← Val.eq_iff.1 h.1] at h0
  rw [h0] at h
  exact absurd h.2 (by decide)
 show _ ++ (Option.toList (some c)).filter _ = _
 rw [show (Option.toList (some c)) = [c] from rfl, this, List.append_nil]
theorem colF_more {i : Int} {cs : List Ct} {k : Nat} {c : Ct} (hc : cs[k]? = some c) (h0 : (atR c.h.xs i).k ≠ 0) : colF i (cs.take (k + 1)) = fun x => if x.eq (atR c.h.xs i) then colF i (cs.take k) (atR c.h.xs i) ++ [c] else colF i (cs.take k) x := by
 funext x
 unfold colF
 rw [List.take_add_one, hc, List.filter_append]
 show _ ++ (Option.toList (some c)).filter _ = _
 rw [show (Option.toList (some c)) = [c] from rfl]
 cases hx : x.eq (atR c.h.xs i)
 · rw [List.filter_cons_of_neg (by simp [hx]), List.filter_nil, List.append_nil]
   rfl
 · have e := Val.eq_iff.1 hx
   rw [List.filter_cons_of_pos (by rw [hx, e]; simp [h0]), List.filter_nil, if_pos rfl, e]
structure ColSaid (w : World) (i : Int) (cs : List Ct) (b : Nat) (l : List (Val × Value)) (w' : World) : Prop where
 below : Below w.heap.size w w'
 grp : Grp w' (w.heap.size + 1) b l (colF i cs)
theorem cOkL : ElOk Tryz.prog 29 44 2 32 (.agg #[.slice none 0 0, .int .i64 0]) rdC where
 under := Tryz.underlying29
 info := by kernel_rfl
 zs := rfl
 pos := by decide
 len := fun _ => rfl
 one := fun x u hu => by
  simp [rdC] at hu
  rcases hu with rfl | rfl <;> rfl
set_option maxHeartbeats 2000000 in
theorem byColumn_c (A : Option Addr) (n c : Nat) (cs : List Ct) (i : Int) (w : World) (hB : BgIn w A n cs) (hn : n ≤ 100000) :
 Calls Tryz.prog 42 #[.slice A n c, .int .i64 i] w fun e w' => ∃ b l, e = .returned (.map (some b)) ∧ ColSaid w i cs b l w' := by
 have HB := Lib.hid hB
 clear hB
 have hmm := @run_makeMap Tryz.prog
 go_enter Tryz.func42, Tryz.ntmps42
 go_wp2_with fail
 have Hg0 : Hid (Grp (w.alloc (.map #[] 0)) (w.heap.size + 1) w.heap.size [] (colF i (cs.take 0))) := Lib.hid ⟨MapV.made w, fun x => OwnG.nil _ _ _, fun x y _ g hg => (by cases hg), Nat.lt_succ_self _⟩
 have Hb0 : Hid (Below w.heap.size w (w.alloc (.map #[] 0))) := Lib.hid (below_one _ _)
 have Hs0 : Hid (w.heap.size + 1 ≤ (w.alloc (.map #[] 0)).heap.size) := Lib.hid (by simp)
 clear hmm
 go_loopw [12] (fun q wr => ∃ (k : Nat) (l : List (Val × Value)), k ≤ n ∧ q = .int .i64 k ∧ Hid (Below w.heap.size w wr) ∧ Hid (w.heap.size + 1 ≤ wr.heap.size) ∧ Hid (Grp wr (w.heap.size + 1) w.heap.size l (colF i (cs.take k)))) (fun q _ => n - (intOf q).toNat)
 case atStart => exact ⟨0, [], Nat.zero_le _, rfl, Hb0, Hs0, Hg0⟩
 case round =>
  obtain ⟨k, l, hk, rfl, hb, hs, hg⟩ := hrel
  clear Hb0 Hs0 Hg0
  by_cases hlt : k < n
  · obtain ⟨b, off, rfl⟩ := HB.out.sl.some2 (k := k) (by rw [HB.out.len]; exact hlt)
    obtain ⟨x, hx⟩ : ∃ x, cs[k]? = some x := ⟨_, List.getElem?_eq_getElem (by rw [HB.out.len]; exact hlt)⟩
    obtain ⟨hblt, c0, c1⟩ := HB.out.sl.cell2 hx
    have d0 := (hb.out.cell (p := ⟨b, off + k * 2, none⟩) hblt).trans c0
    have d1 := (hb.out.cell (p := ⟨b, off + k * 2 + 1, none⟩) hblt).trans c1
    have l0 : b < wr.heap.size := Nat.lt_of_lt_of_le hblt hb.out.size
    have Hx := Lib.hid ((HB.out.each x (List.mem_of_getElem? hx)).after hb.out)
    have Hlen : Hid ((colF i (cs.take k) (atR x.h.xs i)).length ≤ k) := Lib.hid (by
     have h1 := List.length_filter_le (fun c : Ct => (atR x.h.xs i).eq (atR c.h.xs i) && !((atR x.h.xs i).k == 0)) (cs.take k)
     have h2 : (cs.take k).length ≤ k := by rw [List.length_take]; omega
     exact Nat.le_trans h1 h2)
    have Hnull := Lib.hid (colF_null (i := i) hx)
    have Hmore := Lib.hid (colF_more (i := i) hx)
    clear c0 c1 hx
    obtain ⟨⟨xA, xn, xc, xs⟩, N⟩ := x
    have hgo : (k : Int) < n := by omega
    have Hb1 : Hid (Below wr.heap.size wr (wr.alloc (.cells #[.slice xA xn xc, .int .i64 N] 44))) := Lib.hid (below_one _ _)
    have dg0 : Hid ((wr.alloc (.cells #[.slice xA xn xc, .int .i64 N] 44)).cell? ⟨wr.heap.size, 0, none⟩ = some (.slice xA xn xc)) := Lib.hid (by simp)
    have dg1 : Hid ((wr.alloc (.cells #[.slice xA xn xc, .int .i64 N] 44)).cell? ⟨wr.heap.size, 1, none⟩ = some (.int .i64 N)) := Lib.hid (by simp)
    have lg1 : wr.heap.size < (wr.alloc (.cells #[.slice xA xn xc, .int .i64 N] 44)).heap.size := by simp
    have Hx1 := Lib.hid (Hx.out.after Hb1.out)
    go_wp2_with fail
    refine (qcolumn_c xA xn xc xs i _ Hx1.out.hd.len Hx1.out.hd.sl).mono ?_
    rintro e w1 ⟨rfl, hb1⟩
    have g0 := (hb1.cell (p := ⟨wr.heap.size, 0, none⟩) lg1).trans dg0.out
    have g1 := (hb1.cell (p := ⟨wr.heap.size, 1, none⟩) lg1).trans dg1.out
    have lg2 : wr.heap.size < w1.heap.size := Nat.lt_of_lt_of_le lg1 hb1.size
    have Hb2 := Lib.hid (below_via Hb1.out hb1)
    have Hn2 := Hnull.out
    have Hm2 := Hmore.out
    have Hl2 := Hlen.out
    try simp only at Hn2
    try simp only at Hm2
    try simp only at Hl2
    obtain ⟨y, hy⟩ : ∃ y, atR xs i = y := ⟨_, rfl⟩
    rw [hy] at Hn2 Hm2 Hl2 ⊢
    have Hn3 := Lib.hid Hn2
    have Hm3 := Lib.hid Hm2
    have Hl3 := Lib.hid Hl2
    clear Hn2 Hm2 Hl2 Hnull Hmore Hlen hy hb1 dg0 dg1 Hb1 Hx1
    by_cases hk0 : y.k = 0
    · have HF : Hid (Below w.heap.size w (w1.alloc (.cells #[.int .i64 y.k, .int .i64 y.n, .string y.s] 46))) := Lib.hid (below_via hb.out (below_via Hb2.out (below_one _ _)))
      have HS : Hid (w.heap.size + 1 ≤ (w1.alloc (.cells #[.int .i64 y.k, .int .i64 y.n, .string y.s] 46)).heap.size) := Lib.hid (by have := hs.out; simp; omega)
      have HG : Hid (Grp (w1.alloc (.cells #[.int .i64 y.k, .int .i64 y.n, .string y.s] 46)) (w.heap.size + 1) w.heap.size l (colF i (cs.take (k + 1)))) := Lib.hid (by
       rw [Hn3.out hk0]
       exact hg.out.after (below_via Hb2.out (below_one _ _)))
      have hk1 : (y.k != 0) = false := by simp [hk0]
      clear hk0 Hn3 Hm3 Hl3
      go_wp2_with fail
      go_roundw
      case rel => exact ⟨k + 1, l, by omega, by go_num, HF, HS, HG⟩
      case measure => simp [intOf]; omega
    · have HM := Lib.hid (Hm3.out hk0)
      have hk1 : (y.k != 0) = true := by simp [hk0]
      have Hb4 : Hid (Below wr.heap.size wr ((w1.alloc (.cells #[.int .i64 y.k, .int .i64 y.n, .string y.s] 46)).alloc (.cells #[.slice xA xn xc, .int .i64 N] 44))) := Lib.hid (below_via Hb2.out ((below_one _ _).alloc (by simp) _))
      have Hsl : Hid (SlG ((w1.alloc (.cells #[.int .i64 y.k, .int .i64 y.n, .string y.s] 46)).alloc (.cells #[.slice xA xn xc, .int .i64 N] 44)) (some ⟨w1.heap.size + 1, 0, none⟩) 2 rdC [⟨⟨xA, xn, xc, xs⟩, N⟩]) := Lib.hid (SlG.newAt (by simp) cOk.len [⟨⟨xA, xn, xc, xs⟩, N⟩] rfl)
      clear hk0 Hn3 Hm3
      obtain ⟨R, hR⟩ : ∃ R : Val → List Ct, (fun x => if x.eq y = true then colF i (List.take k cs) y ++ [{ h := { A := xA, n := xn, c := xc, xs := xs }, N := N }] else colF i (List.take k cs) x) = R := ⟨_, rfl⟩
      rw [hR] at HM
      have HR := Lib.hid hR
      clear hR
      go_wp2_with (first
       | (refine wpList_entryV rfl (.tmp 23) (.tmp 24) rfl Tryz.underlying75 nilS (by kernel_rfl) w.heap.size l y rfl rfl (hg.out.map.after Hb4.out) ?_
          intro w2 st hE2 hg2 hs2
          have HE2 := Lib.hid hE2
          have Hg2 := Lib.hid hg2
          have Hs2 := Lib.hid hs2
          clear hE2 hg2 hs2)
       | (at_builtin; go_must (
          refine wpList_appL cOkL rfl (.tmp 25) (.tmp 27) rfl (w.heap.size + 1) (atV l y) (colF i (cs.take k) y) [⟨⟨xA, xn, xc, xs⟩, N⟩] (some ⟨w1.heap.size + 1, 0, none⟩) 1 1 rfl
           (((hg.out.each y).after Hb4.out).same fun g hg' => Hg2.out.block g (Nat.lt_of_lt_of_le ((hg.out.each y).lt g hg').2 Hb4.out.size) (by intro e; cases e; exact hg.out.ne y _ hg' rfl)) rfl rfl
           (Hsl.out.sameAt (Hg2.out.block _ (by simp) (by intro e; injection e with e; have := hb.out.size; have := Hb2.out.size; have := hs.out; omega)) Hg2.out.size) (by have := Hl3.out; simp [maxLen]; omega) (by have := Hl3.out; simp; omega) (by have := hs.out; have := Hb4.out.size; have := Hs2.out; omega) ?_
          intro v3 w3 hv3 hg3 hl3
          have Hv3 := Lib.hid hv3
          have Hg3 := Lib.hid hg3
          have Hloc3 := Lib.hid hl3
          have Hlt3 := Lib.hid ((hg.out.each y).lt)
          clear hv3 hg3 hl3))
       | (refine wpList_storeV rfl (.tmp 23) (.tmp 30) (.tmp 29) rfl w.heap.size l y st v3 rfl rfl rfl (HE2.out.same (Hg3.out.block _ HE2.out.lt (by intro e; exact hg.out.ne y _ e.symm rfl))) ?_
          intro w5 hM5 hg5 hs5
          have HG5 := Lib.hid (hg.out.step Hb4.out Hg2.out Hs2.out Hv3.out Hg3.out Hloc3.out hM5 hg5)
          have Hb5 := Lib.hid ((((hb.out.trans (Hb4.out.mono hb.out.size)).grown Hg2.out (by have := hb.out.size; have := Hb4.out.size; omega) (fun g hg' => by cases hg'; exact Nat.le_refl _)).grown Hg3.out (by have := hb.out.size; have := Hb4.out.size; have := Hg2.out.size; omega) (fun g hg' => by have := (Hlt3.out g hg').1; omega)).grown hg5 (by have := hb.out.size; have := Hb4.out.size; have := Hg2.out.size; have := Hg3.out.size; omega) (fun g hg' => by cases hg'; exact Nat.le_refl _))
          have HS5 : Hid (w.heap.size + 1 ≤ w5.heap.size) := Lib.hid (by have := hs.out; have := Hb4.out.size; have := Hg2.out.size; have := Hg3.out.size; omega)
          clear hM5 hg5 hs5))
      rw [HR.out, ← HM.out] at HG5
      go_roundw
      case rel => exact ⟨k + 1, _, by omega, by go_num, Hb5, HS5, HG5⟩
      case measure => simp [intOf]; omega
  · obtain rfl : k = n := by omega
    have HF : Hid (ColSaid w i cs w.heap.size l wr) := Lib.hid ⟨hb.out, by
     have := hg.out
     rw [show cs.take k = cs from List.take_of_length_le (by rw [HB.out.len]; exact Nat.le_refl _)] at this
     exact this⟩
    go_wp2
    go_ret
    exact ⟨_, _, rfl, HF.out⟩
def ofR (l : List (List Val)) : Bg := if l.all mayR then ofL l else []
theorem BgIn.nil (w : World) (c : Nat) : BgIn w none 0 [] ∧ c = c := ⟨⟨rfl, Nat.zero_le _, .inl rfl, nofun⟩, rfl⟩
theorem BgIn.none (w : World) : BgIn w none 0 [] := (BgIn.nil w 0).1
theorem BgIn.empty (w : World) (E : TypeId) : BgIn (w.alloc (.cells #[] E)) (some ⟨w.heap.size, 0, Option.none⟩) 0 [] := ⟨rfl, Nat.zero_le _, SlG.new cOk.len [] rfl, nofun⟩
structure Bh where
 A : Option Addr
 n : Nat
 c : Nat
 cs : List Ct
def rdBh (b : Bh) : List Value := [.slice b.A b.n b.c]
def Bh.In (w : World) (b : Bh) : Prop := BgIn w b.A b.n b.cs
def totB : List Bh → Nat
 | [] => 0
 | b :: l => b.n + totB l
theorem totB_take : ∀ (l : List Bh) (k : Nat) (b : Bh), l[k]? = some b → totB (l.take (k + 1)) = totB (l.take k) + b.n
 | [], k, b, h => by simp at h
 | x :: l, 0, b, h => by
   simp at h
   subst h
   simp [totB]
 | x :: l, k + 1, b, h => by
   have := totB_take l k b (by simpa using h)
   rw [List.take_succ_cons, List.take_succ_cons, totB, totB, this]
   omega
theorem totB_le : ∀ (l : List Bh) (k : Nat), totB (l.take k) ≤ totB l
 | [], k => by simp
 | x :: l, 0 => Nat.zero_le _
 | x :: l, k + 1 => by
   have := totB_le l k
   rw [List.take_succ_cons, totB, totB]
   omega
theorem bd_may {b : Bg} (h : mayBag b = true) : Bd 1000000000 b := by
 unfold mayBag at h
 rw [Bool.and_eq_true, List.all_eq_true] at h
 intro x hx
 have := okC_parts (h.1 x hx)
 exact ⟨this.2.1, this.2.2.1⟩
theorem plus_take (l : List Bg) (k : Nat) (b : Bg) (h : l[k]? = some b) : plusL (l.take (k + 1)) = bothB (plusL (l.take k)) b := by
 unfold plusL
 rw [List.take_add_one, h, List.foldl_append]
 rfl
theorem asc_plusL (l : List Bg) : Asc (plusL l) := (plus_go l [] [] List.Pairwise.nil).1
attribute [local go_sem ↓] Go.wp_at_zero Go.wp_at_succ
theorem qone_c (A : Option Addr) (n c : Nat) (N : Int) (w : World) :
 Calls Tryz.prog 31 #[.slice A n c, .int .i64 N] w fun e w' => e = .returned (.slice (some ⟨w.heap.size, 0, none⟩) 1 1) ∧ w' = w.alloc (.cells #[.slice A n c, .int .i64 N] 44) := by
 go_enter Tryz.func31, Tryz.ntmps31
 go_wp2
 go_ret
 exact ⟨rfl, rfl⟩
theorem wpList_lookV {MT E : TypeId} {ops : Array Oper} {rest : List Oper} {o : Oper} {a : Act} {Q : Exit → Act → World → Prop} {w : World} (hgd : o.guard = none) (m x : Operand) (ho : o.op = .lookup MT m x false)
 (hm : Tryz.prog.underlying MT = some (.map 46 E)) (hz : (zeroValue E).run Tryz.prog w = .ok nilS w) (b : Nat) (l : List (Val × Value)) (k : Val) (v : Value) (hv : atV l k = v) (he : a.eval m = .map (some b)) (hx : a.eval x = k.v) (hM : MapV w b l)
 (h : wpList Tryz.prog ops Q rest (a.put o.dst v) w) : wpList Tryz.prog ops Q (o :: rest) a w := by
 refine wpList_plain hgd fun K hK => ?_
 have hr := run_lookV hm nilS hz hM k.k k.n k.s
 have hr2 : (getV l ⟨k.k, k.n, k.s⟩).getD nilS = v := hv
 rw [hr2] at hr
 unfold Oper.wp
 simp [execOp, ho, he, hx, hr, Result.andThen]
 exact hK _ _ h
theorem bOkQ : ElOk Tryz.prog 53 30 1 24 (.slice none 0 0) rdBh where
 under := Tryz.underlying53
 info := by kernel_rfl
 zs := rfl
 pos := by decide
 len := fun _ => rfl
 one := fun x u hu => by
  simp [rdBh] at hu
  rcases hu with rfl; rfl
def Safe (w : World) (u : Option Nat) (p : Bh) : Prop := ∀ w' : World, w.grownBy w' u → Bh.In w' p
theorem Safe.in {w : World} {u : Option Nat} {p : Bh} (h : Safe w u p) : Bh.In w p := h w (World.grownBy.refl w u)
theorem grown_below {w w' w2 : World} {u : Option Nat} (hb : Below w.heap.size w w') (hg : w'.grownBy w2 u) : w.grownBy w2 u :=
 ⟨hg.os.trans hb.os, hg.tape.trans hb.tape, hg.output.trans hb.output, Nat.le_trans hb.size hg.size, fun k hk hne => (hg.block k (Nat.lt_of_lt_of_le hk hb.size) hne).trans (hb.block k hk)⟩
theorem Safe.after {w w' : World} {u : Option Nat} {p : Bh} (h : Safe w u p) (hb : Below w.heap.size w w') : Safe w' u p := fun w2 hg => h w2 (grown_below hb hg)
theorem Safe.app {X w2 : World} {u u2 : Option Nat} {p : Bh} (h : Safe X u p) (hg : X.grownBy w2 u) (hl : u2 = u ∨ u2 = some X.heap.size) : Safe w2 u2 p := fun w' h2 => h w' (by
 rcases hl with rfl | rfl
 · exact hg.trans h2
 · refine ⟨h2.os.trans hg.os, h2.tape.trans hg.tape, h2.output.trans hg.output, Nat.le_trans hg.size h2.size, fun k hk hne => ?_⟩
   rw [h2.block k (Nat.lt_of_lt_of_le hk hg.size) (by intro e; injection e with e; omega), hg.block k hk hne])
theorem Sl.sameAt {w w' : World} {A : Option Addr} {xs : List Val} (h : Sl w A xs) (hb : ∀ g o, A = some ⟨g, o, none⟩ → w'.heap[g]? = w.heap[g]?) (hs : w.heap.size ≤ w'.heap.size) : Sl w' A xs := by
 rcases h with h | ⟨b, off, hA, hlt, h⟩
 · exact .inl h
 · have e := hb b off hA
   refine .inr ⟨b, off, hA, Nat.lt_of_lt_of_le hlt hs, fun i x hx => ?_⟩
   have := h i x hx
   simp only [World.cell?, e] at this ⊢
   exact this
theorem Safe.new {X : World} {u : Option Nat} {g : Nat} {h : Hd} {N : Int} (hin : BgIn X (some ⟨g, 0, none⟩) 1 [⟨h, N⟩]) (hlt : g < X.heap.size) (hg : u ≠ some g) (hh : ∀ b off, h.A = some ⟨b, off, none⟩ → u ≠ some b ∧ b < X.heap.size) : Safe X u ⟨some ⟨g, 0, none⟩, 1, 1, [⟨h, N⟩]⟩ := fun w' hg2 =>
 ⟨hin.len, hin.max, hin.sl.sameAt (hg2.block g hlt (fun e => hg e.symm)) hg2.size, fun c hc => by
   have h1 := hin.each c hc
   rw [List.mem_singleton] at hc
   subst hc
   exact ⟨⟨h1.hd.len, h1.hd.max, h1.hd.sl.sameAt (fun b off hA => hg2.block b (hh b off hA).2 (fun e => (hh b off hA).1 e.symm)) hg2.size⟩, h1.sz, h1.n64, h1.N64, h1.room⟩⟩
structure PrsIn (w : World) (B : Nat) (v : Value) (ps : List Bh) (L : Bg) : Prop where
 own : OwnG w B 30 1 rdBh v ps
 safe : ∀ p ∈ ps, Safe w v.ownBlock p
 map : ps.map (fun b => pl b.cs) = ones L
 one : ∀ p ∈ ps, p.n = 1
theorem PrsIn.after {w w' : World} {B : Nat} {v : Value} {ps : List Bh} {L : Bg} (h : PrsIn w B v ps L) (hb : Below w.heap.size w w') : PrsIn w' B v ps L := ⟨h.own.after hb, fun p hp => (h.safe p hp).after hb, h.map, h.one⟩
theorem PrsIn.len {w : World} {B : Nat} {v : Value} {ps : List Bh} {L : Bg} (h : PrsIn w B v ps L) : ps.length = L.length := by
 have := congrArg List.length h.map
 unfold ones at this
 rwa [List.length_map, List.length_map] at this
theorem tot_one : ∀ ps : List Bh, (∀ p ∈ ps, p.n = 1) → totB ps = ps.length
 | [], _ => rfl
 | p :: ps, h => by
   rw [totB, tot_one ps (fun q hq => h q (List.mem_cons_of_mem _ hq)), h p (by simp), List.length_cons]
   omega
theorem PrsIn.nil (w : World) (B : Nat) : PrsIn w B (.slice none 0 0) [] [] := ⟨OwnG.nil _ _ _, nofun, rfl, nofun⟩
theorem PrsIn.more {X w2 : World} {B : Nat} {v v2 : Value} {ps : List Bh} {L : Bg} {p : Bh} {r : List Val × Int} (h : PrsIn X B v ps L) (hp : Safe X v.ownBlock p) (hpl : pl p.cs = [r]) (hn : p.n = 1) (hv : OwnG w2 B 30 1 rdBh v2 (ps ++ [p])) (hg : X.grownBy w2 v.ownBlock) (hl : v2.ownBlock = v.ownBlock ∨ v2.ownBlock = some X.heap.size) : PrsIn w2 B v2 (ps ++ [p]) (L ++ [r]) :=
 ⟨hv, fun q hq => by
   rcases List.mem_append.1 hq with hq | hq
   · exact (h.safe q hq).app hg hl
   · rw [List.mem_singleton] at hq
     subst hq
     exact hp.app hg hl, by
   unfold ones
   rw [List.map_append, List.map_append, h.map, List.map_singleton, List.map_singleton, hpl]
   rfl, fun q hq => by
   rcases List.mem_append.1 hq with hq | hq
   · exact h.one q hq
   · rw [List.mem_singleton] at hq
     subst hq
     exact hn⟩
theorem pl_colF (i j : Int) (ds : List Ct) (x : List Val) : pl (colF j ds (atR x i)) = (pl ds).filter fun y => meetB i j x y.1 := by
 unfold pl colF
 rw [List.filter_map]
 rfl
theorem pairL_take {i j : Int} {cs : List Ct} (b : Bg) {k : Nat} {x : Ct} (hx : cs[k]? = some x) : pairL i j (pl (cs.take (k + 1))) b = pairL i j (pl (cs.take k)) b ++ (b.filter fun y => meetB i j x.h.xs y.1).map (fun y => (x.h.xs ++ y.1, x.N * y.2)) := by
 have e : pl (cs.take (k + 1)) = pl (cs.take k) ++ [(x.h.xs, x.N)] := by
  unfold pl
  rw [List.take_add_one, hx, List.map_append]
  rfl
 unfold pairL
 rw [e, List.flatMap_append]
 simp
theorem pairL_le (i j : Int) (cs : List Ct) (b : Bg) (k : Nat) : (pairL i j (pl (cs.take k)) b).length ≤ (pairL i j (pl cs) b).length := by
 have e : pl cs = pl (cs.take k) ++ pl (cs.drop k) := by
  unfold pl
  rw [← List.map_append, List.take_append_drop]
 unfold pairL
 rw [e, List.flatMap_append, List.length_append]
 omega
structure PairSaid (w : World) (L : Bg) (v : Value) (ok : Bool) (w' : World) : Prop where
 below : Below w.heap.size w w'
 how : ok = decide (L.length ≤ 10000)
 said : ok = true → ∃ A n c ps, v = .slice A n c ∧ ps.length = n ∧ SlG w' A 1 rdBh ps ∧ (∀ p ∈ ps, Bh.In w' p) ∧ totB ps = n ∧ ps.map (fun b => pl b.cs) = ones L
end Go.Proofs.YtbpopkgpepmlcaaGreat
namespace Go.Proofs.YtbpopkgpepmlcaaGreat
open Go Go.RowKit
set_option maxRecDepth 100000
attribute [local go_sem ↓] Go.wp_at_zero Go.wp_at_succ
theorem may_row {b : Bg} (h : mayBag b = true) {x : List Val × Int} (hx : x ∈ b) : x.1.length ≤ 40 ∧ (∀ v ∈ x.1, mayB v = true) ∧ -1000000000 ≤ x.2 ∧ x.2 ≤ 1000000000 := by
 obtain ⟨_, h1, h2, h3⟩ := okC_parts (may_okC h x hx)
 unfold mayR at h3
 rw [Bool.and_eq_true, decide_eq_true_eq, List.all_eq_true] at h3
 exact ⟨h3.1, h3.2, h1, h2⟩
theorem mul_bd {a b : Int} (ha : -1000000000 ≤ a ∧ a ≤ 1000000000) (hb : -1000000000 ≤ b ∧ b ≤ 1000000000) : -1000000000000000000 ≤ a * b ∧ a * b ≤ 1000000000000000000 := by
 have h : (a * b).natAbs ≤ 1000000000 * 1000000000 := by
  rw [Int.natAbs_mul]
  exact Nat.mul_le_mul (by omega) (by omega)
 omega
theorem pl_take1 {l : List Ct} {k : Nat} {x : Ct} (hx : l[k]? = some x) : pl (l.take (k + 1)) = pl (l.take k) ++ [(x.h.xs, x.N)] := by
 unfold pl
 rw [List.take_add_one, hx, List.map_append]
 rfl
theorem colF_mem {i : Int} {cs : List Ct} {x : Val} {z : Ct} (h : z ∈ colF i cs x) : z ∈ cs := (List.mem_filter.1 h).1
set_option maxHeartbeats 4000000 in
theorem paired_c (A B : Option Addr) (n m c d : Nat) (cs ds : List Ct) (i j : Int) (w : World) (hA : BgIn w A n cs) (hB : BgIn w B m ds) (hn : n ≤ 100000) (hm : m ≤ 100000) (ha : mayBag (pl cs) = true) (hb : mayBag (pl ds) = true) :
 Calls Tryz.prog 19 #[.agg #[.int .i64 i, .int .i64 j], .slice A n c, .slice B m d] w fun e w' => ∃ v ok, e = .returned (.tuple #[v, .bool ok]) ∧ PairSaid w (pairL i j (pl cs) (pl ds)) v ok w' := by
 have HA := Lib.hid hA
 have HB := Lib.hid hB
 have Hma := Lib.hid ha
 have Hmb := Lib.hid hb
 clear hA hB ha hb
 go_enter Tryz.func19, Tryz.ntmps19
 go_wp2_with fail
 refine (byColumn_c B m d ds j _ (HB.out.after (below_one _ _)) hm).mono ?_
 rintro e W ⟨mb, l, rfl, hS⟩
 have HS := Lib.hid hS
 have HbW : Hid (Below w.heap.size w W) := Lib.hid (below_via (below_one _ _) hS.below)
 have o0 : Hid ((w.alloc (.cells #[.int .i64 i, .int .i64 j] 22)).cell? ⟨w.heap.size, 0, none⟩ = some (.int .i64 i)) := Lib.hid (by simp)
 have o1 : W.cell? ⟨w.heap.size, 0, none⟩ = some (.int .i64 i) := (hS.below.cell (p := ⟨w.heap.size, 0, none⟩) (by simp)).trans o0.out
 have ow : w.heap.size < W.heap.size := Nat.lt_of_lt_of_le (by simp) hS.below.size
 have HAW := Lib.hid (HA.out.after HbW.out)
 clear hS o0
 have HG := Lib.hid HS.out.grp
 obtain ⟨B0, hB0⟩ : ∃ B0, (w.alloc (Obj.cells #[Value.int IntKind.i64 i, Value.int IntKind.i64 j] 22)).heap.size + 1 = B0 := ⟨_, rfl⟩
 rw [hB0] at HG
 clear HS hB0
 go_wp2_with fail
 go_loopw [9, 21] (fun v q wr => ∃ (k n' : Nat) (A' : Option Addr) (c' : Nat) (ps : List Bh), k ≤ n ∧ q = .int .i64 k ∧ v = .slice A' n' c' ∧ n' ≤ 10000 ∧ Hid (Below W.heap.size W wr) ∧ Hid (PrsIn wr W.heap.size (.slice A' n' c') ps (pairL i j (pl (cs.take k)) (pl ds))) ∧ Hid (ps.length = n')) (fun _ q _ => n - (intOf q).toNat)
 case atStart => exact ⟨0, 0, none, 0, [], Nat.zero_le _, rfl, rfl, Nat.zero_le _, Lib.hid (Below.refl _ _), Lib.hid (PrsIn.nil _ _), Lib.hid rfl⟩
 case round =>
  obtain ⟨k, n', A', c', ps, hk, rfl, rfl, hn', hb, hp, hpn⟩ := hrel
  by_cases hlt : k < n
  · obtain ⟨b, off, rfl⟩ := HAW.out.sl.some2 (k := k) (by rw [HAW.out.len]; exact hlt)
    obtain ⟨x, hx⟩ : ∃ x, cs[k]? = some x := ⟨_, List.getElem?_eq_getElem (by rw [HAW.out.len]; exact hlt)⟩
    obtain ⟨hblt, c0, c1⟩ := HAW.out.sl.cell2 hx
    have d0 := (hb.out.cell (p := ⟨b, off + k * 2, none⟩) hblt).trans c0
    have d1 := (hb.out.cell (p := ⟨b, off + k * 2 + 1, none⟩) hblt).trans c1
    have l0 : b < wr.heap.size := Nat.lt_of_lt_of_le hblt hb.out.size
    have or1 := (hb.out.cell (p := ⟨w.heap.size, 0, none⟩) ow).trans o1
    have orl : w.heap.size < wr.heap.size := Nat.lt_of_lt_of_le ow hb.out.size
    have HxW := Lib.hid (HAW.out.each x (List.mem_of_getElem? hx))
    have Hmx := Lib.hid (may_row Hma.out (pl_mem (List.mem_of_getElem? hx)))
    have Htk := Lib.hid (pairL_take (i := i) (j := j) (pl ds) hx)
    have Hle := Lib.hid (pairL_le i j cs (pl ds) (k + 1))
    clear c0 c1 hx
    obtain ⟨⟨xA, xn, xc, xs⟩, N⟩ := x
    have hgo : (k : Int) < n := by omega
    have Hb1 : Hid (Below wr.heap.size wr (wr.alloc (.cells #[.slice xA xn xc, .int .i64 N] 44))) := Lib.hid (below_one _ _)
    have dg0 : Hid ((wr.alloc (.cells #[.slice xA xn xc, .int .i64 N] 44)).cell? ⟨wr.heap.size, 0, none⟩ = some (.slice xA xn xc)) := Lib.hid (by simp)
    have dg1 : Hid ((wr.alloc (.cells #[.slice xA xn xc, .int .i64 N] 44)).cell? ⟨wr.heap.size, 1, none⟩ = some (.int .i64 N)) := Lib.hid (by simp)
    have lg1 : wr.heap.size < (wr.alloc (.cells #[.slice xA xn xc, .int .i64 N] 44)).heap.size := by simp
    have Hx1 := Lib.hid ((HxW.out.after hb.out).after Hb1.out)
    go_wp2_with fail
    refine (qcolumn_c xA xn xc xs i _ Hx1.out.hd.len Hx1.out.hd.sl).mono ?_
    rintro e w1 ⟨rfl, hb1⟩
    have g0 := (hb1.cell (p := ⟨wr.heap.size, 0, none⟩) lg1).trans dg0.out
    have g1 := (hb1.cell (p := ⟨wr.heap.size, 1, none⟩) lg1).trans dg1.out
    have lg2 : wr.heap.size < w1.heap.size := Nat.lt_of_lt_of_le lg1 hb1.size
    have Hb2 := Lib.hid (below_via Hb1.out hb1)
    have HbW1 := Lib.hid (hb.out.trans (Hb2.out.mono hb.out.size))
    have HP1 := Lib.hid (hp.out.after Hb2.out)
    have HU1 : Hid ((Value.slice A' n' c').ownBlock ≠ some wr.heap.size) := Lib.hid (fun e => by have := (hp.out.own.lt _ e).2; omega)
    have Hcf := Lib.hid (pl_colF i j ds xs)
    have Ht2 := Htk.out
    try simp only at Ht2
    rw [← pl_colF i j ds xs] at Ht2
    obtain ⟨y, hy⟩ : ∃ y, atR xs i = y := ⟨_, rfl⟩
    rw [hy] at Ht2 ⊢
    have Ht3 := Lib.hid Ht2
    obtain ⟨rA, rc, hr, hrc, hrm, hrs⟩ := (HG.out.each y).sl cOk.len
    obtain ⟨Rl, hRl⟩ : ∃ Rl, colF j ds y = Rl := ⟨_, rfl⟩
    have HRm : Hid (∀ z ∈ Rl, z ∈ ds) := Lib.hid fun z hz => by rw [← hRl] at hz; exact colF_mem hz
    have Hrn : Hid (Rl.length ≤ m) := Lib.hid (by rw [← hRl, ← HB.out.len]; exact List.length_filter_le _ _)
    rw [hRl] at hr hrc hrs Ht3
    obtain ⟨rn, hrn⟩ : ∃ rn, Rl.length = rn := ⟨_, rfl⟩
    rw [hrn] at hr hrc Hrn
    have Hr := Lib.hid hr
    have Hrs := Lib.hid hrs
    have HRn := Lib.hid hrn
    have hrnm := Hrn.out
    clear hy Ht2 Htk hr hrs hrn hRl hb1 dg0 dg1 Hb1 Hx1 Hcf
    have hw0 : IntKind.i64.wrap ((n' : Int) + rn) = n' + rn := by rw [IntKind.wrap_i64]; omega
    by_cases hmany : 10000 < n' + rn
    · have hdec : (10000 : Int) < (n' : Int) + rn := by omega
      have HF : Hid (PairSaid w (pairL i j (pl cs) (pl ds)) (.slice none 0 0) false w1) := Lib.hid ⟨below_via HbW.out HbW1.out, by
       have h1 := Hle.out
       rw [Ht3.out, List.length_append, List.length_map, pl_len, HRn.out, ← hp.out.len, hpn.out] at h1
       rw [decide_eq_false (by omega)], nofun⟩
      go_wp2_with (first
       | (at_lookup; go_must (
          refine wpList_lookV rfl (.tmp 25) (.tmp 30) rfl Tryz.underlying75 (by kernel_rfl) mb l y (.slice rA rn rc) Hr.out rfl rfl (HG.out.map.after HbW1.out) ?_)))
      go_ret2
      exact ⟨_, _, rfl, HF.out⟩
    · have hdec : (n' : Int) + rn ≤ 10000 := by omega
      go_wp2_with (first
       | (at_lookup; go_must (
          refine wpList_lookV rfl (.tmp 25) (.tmp 30) rfl Tryz.underlying75 (by kernel_rfl) mb l y (.slice rA rn rc) Hr.out rfl rfl (HG.out.map.after HbW1.out) ?_)))
      obtain ⟨P, hP⟩ : ∃ P, pairL i j (pl (List.take k cs)) (pl ds) = P := ⟨_, rfl⟩
      rw [hP] at HP1 Ht3
      have HPl : Hid (P.length = n') := Lib.hid (by rw [← HP1.out.len, hpn.out])
      clear hP hp hw0 hmany Hle
      obtain ⟨L, hL⟩ : ∃ L, wr.heap.size = L := ⟨_, rfl⟩
      rw [hL] at g0 g1 lg2 HU1 lg1 ⊢
      have HL0 := Lib.hid g0
      have HL1 := Lib.hid g1
      have HLW : Hid (W.heap.size ≤ L) := Lib.hid (by rw [← hL]; exact hb.out.size)
      have Hlg := Lib.hid lg2
      clear g0 g1 hL lg1 lg2 d0 d1 or1 orl l0
      obtain ⟨wo, hwo⟩ : ∃ wo, wo = wr := ⟨_, rfl⟩
      clear hwo Hb2 hb
      go_loopw [9, 40] (fun v q wr => ∃ (q' n2 : Nat) (A2 : Option Addr) (c2 : Nat) (ps2 : List Bh), q' ≤ rn ∧ q = .int .i64 q' ∧ v = .slice A2 n2 c2 ∧ Hid (n2 = n' + q') ∧ Hid (Below W.heap.size W wr) ∧ Hid (PrsIn wr W.heap.size (.slice A2 n2 c2) ps2 (P ++ (pl (Rl.take q')).map (fun y => (xs ++ y.1, N * y.2)))) ∧ Hid (ps2.length = n2) ∧ Hid (wr.cell? ⟨L, 0, none⟩ = some (.slice xA xn xc) ∧ wr.cell? ⟨L, 1, none⟩ = some (.int .i64 N)) ∧ Hid (L < wr.heap.size) ∧ Hid ((Value.slice A2 n2 c2).ownBlock ≠ some L)) (fun _ q _ => rn - (intOf q).toNat)
      case atStart => exact ⟨0, n', A', c', ps, Nat.zero_le _, rfl, rfl, Lib.hid rfl, HbW1, (by have h1 := HP1.out; rw [← List.append_nil P] at h1; exact Lib.hid h1), hpn, Lib.hid ⟨HL0.out, HL1.out⟩, Hlg, HU1⟩
      case round =>
       obtain ⟨q', n2, A2, c2, ps2, hq, rfl, rfl, hn2, hb2, hp2, hpn2, hc2, hl2, hu2⟩ := hrel
       clear HbW1 HP1 hpn HU1 HL0 HL1 Hlg
       by_cases hlt2 : q' < rn
       · obtain ⟨rb, ro, rfl⟩ := Hrs.out.some2 (k := q') (by rw [HRn.out]; exact hlt2)
         obtain ⟨z, hz⟩ : ∃ z, Rl[q']? = some z := ⟨_, List.getElem?_eq_getElem (by rw [HRn.out]; exact hlt2)⟩
         obtain ⟨rblt, e0, e1⟩ := Hrs.out.cell2 hz
         have f0 := (hb2.out.cell (p := ⟨rb, ro + q' * 2, none⟩) rblt).trans e0
         have f1 := (hb2.out.cell (p := ⟨rb, ro + q' * 2 + 1, none⟩) rblt).trans e1
         have r0 : rb < wr.heap.size := Nat.lt_of_lt_of_le rblt hb2.out.size
         have HzW := Lib.hid (((HB.out.each z (HRm.out z (List.mem_of_getElem? hz))).after HbW.out).after hb2.out)
         have HxR := Lib.hid (HxW.out.after hb2.out)
         have Hmz := Lib.hid (may_row Hmb.out (pl_mem (HRm.out z (List.mem_of_getElem? hz))))
         have Hpt := Lib.hid (pl_take1 hz)
         clear e0 e1 hz
         obtain ⟨⟨zA, zn, zc, zs⟩, M⟩ := z
         have hgo2 : (q' : Int) < rn := by omega
         have Hb8 : Hid (Below wr.heap.size wr (wr.alloc (.cells #[.slice zA zn zc, .int .i64 M] 44))) := Lib.hid (below_one _ _)
         have eg0 : Hid ((wr.alloc (.cells #[.slice zA zn zc, .int .i64 M] 44)).cell? ⟨wr.heap.size, 0, none⟩ = some (.slice zA zn zc)) := Lib.hid (by simp)
         have eg1 : Hid ((wr.alloc (.cells #[.slice zA zn zc, .int .i64 M] 44)).cell? ⟨wr.heap.size, 1, none⟩ = some (.int .i64 M)) := Lib.hid (by simp)
         have elg : Hid (wr.heap.size < (wr.alloc (.cells #[.slice zA zn zc, .int .i64 M] 44)).heap.size) := Lib.hid (by simp)
         have hw1 : IntKind.i64.wrap (N * M) = N * M := by
          have := mul_bd (a := N) (b := M) ⟨Hmx.out.2.2.1, Hmx.out.2.2.2⟩ ⟨Hmz.out.2.2.1, Hmz.out.2.2.2⟩
          rw [IntKind.wrap_i64]
          omega
         have HNM : Hid (-9223372036854775808 ≤ N * M ∧ N * M ≤ 9223372036854775807) := Lib.hid (by
          have := mul_bd (a := N) (b := M) ⟨Hmx.out.2.2.1, Hmx.out.2.2.2⟩ ⟨Hmz.out.2.2.1, Hmz.out.2.2.2⟩
          omega)
         have hur : Hid (∀ g, (Value.slice A2 n2 c2).ownBlock = some g → g < wr.heap.size) := Lib.hid fun g hg => (hp2.out.own.lt g hg).2
         go_wp2_with fail
         clear f0 f1
         obtain ⟨Rr, hRr⟩ : ∃ Rr, wr.heap.size = Rr := ⟨_, rfl⟩
         obtain ⟨w8, hw8⟩ : ∃ w8, wr.alloc (.cells #[.slice zA zn zc, .int .i64 M] 44) = w8 := ⟨_, rfl⟩
         have Hb2r := Lib.hid (hb2.out.trans (Hb8.out.mono hb2.out.size))
         have HP8 := Lib.hid (hp2.out.after Hb8.out)
         have Hz8 := Lib.hid (HzW.out.after Hb8.out)
         have Hx8 := Lib.hid (HxR.out.after Hb8.out)
         have HL8 : Hid (L < w8.heap.size) := Lib.hid (by rw [← hw8]; exact Nat.lt_of_lt_of_le hl2.out Hb8.out.size)
         have HC8 : Hid (w8.cell? ⟨L, 0, none⟩ = some (.slice xA xn xc) ∧ w8.cell? ⟨L, 1, none⟩ = some (.int .i64 N)) := Lib.hid (by
          rw [← hw8]
          exact ⟨(Hb8.out.cell hl2.out).trans hc2.out.1, (Hb8.out.cell hl2.out).trans hc2.out.2⟩)
         rw [hRr] at eg0 eg1 elg hur ⊢
         rw [hw8] at eg0 eg1 elg Hb2r HP8 Hz8 Hx8 ⊢
         have Hur8 : Hid (∀ g, (Value.slice A2 n2 c2).ownBlock = some g → g < w8.heap.size) := Lib.hid fun g hg => Nat.lt_trans (hur.out g hg) elg.out
         have HuR : Hid ((Value.slice A2 n2 c2).ownBlock ≠ some Rr) := Lib.hid fun e => by have := hur.out Rr e; omega
         have h80 := HC8.out.1
         have h81 := HC8.out.2
         have h82 := eg0.out
         have h83 := eg1.out
         have h84 := HL8.out
         have h85 := elg.out
         have Hjn : Hid (joinR [(⟨xA, xn, xc, xs⟩ : Hd), ⟨zA, zn, zc, zs⟩] = xs ++ zs) := Lib.hid (by simp [joinR])
         clear hw8 hRr hp2 HzW HxR hb2 Hb8 hc2 hl2 hur r0
         go_region_held3 (fun w' => w'.cell? ⟨L, 0, none⟩ = some (.slice xA xn xc) ∧ w'.cell? ⟨L, 1, none⟩ = some (.int .i64 N) ∧ w'.cell? ⟨Rr, 0, none⟩ = some (.slice zA zn zc) ∧ w'.cell? ⟨Rr, 1, none⟩ = some (.int .i64 M)) (first | exact HGC9.out | exact HGC10.out | exact HGCa.out | go_keep)
          (first
            | (go_at_call 27
               have hbj := Lib.hid (((Below.refl w8.heap.size w8).alloc (Nat.le_refl _) (.cells #[.slice xA xn xc, .slice zA zn zc] 42)).drew)
               have hsj : Hid (SlG (w8.alloc (.cells #[.slice xA xn xc, .slice zA zn zc] 42)).drew (some ⟨w8.heap.size, 0, none⟩) 1 rdH [⟨xA, xn, xc, xs⟩, ⟨zA, zn, zc, zs⟩]) := Lib.hid ((SlG.new hOk.len [⟨xA, xn, xc, xs⟩, ⟨zA, zn, zc, zs⟩] rfl).after (Below.refl _ _).drew)
               refine (join_c (some ⟨w8.heap.size, 0, none⟩) 2 2 [⟨xA, xn, xc, xs⟩, ⟨zA, zn, zc, zs⟩] (w8.alloc (.cells #[.slice xA xn xc, .slice zA zn zc] 42)).drew rfl (by unfold maxLen; omega) hsj.out (fun h' hh' => by
                simp only [List.mem_cons, List.not_mem_nil, or_false] at hh'
                rcases hh' with rfl | rfl
                · exact Hx8.out.hd.after hbj.out
                · exact Hz8.out.hd.after hbj.out) (by rw [Hjn.out, List.length_append]; have := Hmx.out.1; have := Hmz.out.1; omega)).mono ?_
               rintro en w9 ⟨v9, rfl, hb9, hv9⟩
               rw [Hjn.out] at hv9
               obtain ⟨h9, rfl, hIn9, hxs9, hbl9, hnc9⟩ := hv9.hd
               have Hb89 := Lib.hid (below_via hbj.out hb9)
               have HGC9 : Hid (w9.cell? ⟨L, 0, none⟩ = some (.slice xA xn xc) ∧ w9.cell? ⟨L, 1, none⟩ = some (.int .i64 N) ∧ w9.cell? ⟨Rr, 0, none⟩ = some (.slice zA zn zc) ∧ w9.cell? ⟨Rr, 1, none⟩ = some (.int .i64 M)) := Lib.hid ⟨(Hb89.out.cell HL8.out).trans HC8.out.1, (Hb89.out.cell HL8.out).trans HC8.out.2, (Hb89.out.cell elg.out).trans eg0.out, (Hb89.out.cell elg.out).trans eg1.out⟩
               have HP9 := Lib.hid (HP8.out.after Hb89.out)
               have HbW9 := Lib.hid (Hb2r.out.trans (Hb89.out.mono Hb2r.out.size))
               have Hs89 : Hid (w8.heap.size ≤ w9.heap.size) := Lib.hid Hb89.out.size
               have Hn9 : Hid (Ct.In w9 ⟨h9, N * M⟩ ∧ h9.xs = xs ++ zs ∧ ∀ b off, h9.A = some ⟨b, off, none⟩ → w8.heap.size ≤ b ∧ b < w9.heap.size) := Lib.hid ⟨⟨hIn9, fun v hv => by
                rw [hxs9] at hv
                rcases List.mem_append.1 hv with hv | hv
                · exact Hx8.out.sz v hv
                · exact Hz8.out.sz v hv, fun v hv => by
                rw [hxs9] at hv
                rcases List.mem_append.1 hv with hv | hv
                · exact Hx8.out.n64 v hv
                · exact Hz8.out.n64 v hv, HNM.out, hnc9⟩, hxs9, fun b off hA => ⟨Nat.le_trans hbj.out.size (hbl9 b off hA).1, (hbl9 b off hA).2⟩⟩
               obtain ⟨h9A, h9n, h9c, h9xs⟩ := h9
               dsimp only [Hd.v]
               clear hv9 hIn9 hxs9 hbl9 hnc9 hb9 hbj hsj HP8 Hb2r)
            | (go_at_call 31
               refine (qone_c h9A h9n h9c (N * M) _).mono ?_
               rintro en w10 ⟨rfl, rfl⟩
               have HGC10 : Hid ((w9.alloc (.cells #[.slice h9A h9n h9c, .int .i64 (N * M)] 44)).cell? ⟨L, 0, none⟩ = some (.slice xA xn xc) ∧ (w9.alloc (.cells #[.slice h9A h9n h9c, .int .i64 (N * M)] 44)).cell? ⟨L, 1, none⟩ = some (.int .i64 N) ∧ (w9.alloc (.cells #[.slice h9A h9n h9c, .int .i64 (N * M)] 44)).cell? ⟨Rr, 0, none⟩ = some (.slice zA zn zc) ∧ (w9.alloc (.cells #[.slice h9A h9n h9c, .int .i64 (N * M)] 44)).cell? ⟨Rr, 1, none⟩ = some (.int .i64 M)) := Lib.hid (by
                have t1 : L < w9.heap.size := Nat.lt_of_lt_of_le HL8.out Hs89.out
                have t2 : Rr < w9.heap.size := Nat.lt_of_lt_of_le elg.out Hs89.out
                exact ⟨((below_one w9 _).cell t1).trans HGC9.out.1, ((below_one w9 _).cell t1).trans HGC9.out.2.1, ((below_one w9 _).cell t2).trans HGC9.out.2.2.1, ((below_one w9 _).cell t2).trans HGC9.out.2.2.2⟩))
            | (refine step_appL bOkQ (by rfl) (.tmp 44) (.tmp 57) (by rfl) W.heap.size (.slice A2 n2 c2) ps2 [⟨some ⟨w9.heap.size, 0, none⟩, 1, 1, [⟨⟨h9A, h9n, h9c, h9xs⟩, N * M⟩]⟩] (by rfl) (HP9.out.own.after (below_two _ _ _)) (some ⟨w9.heap.size + 1, 0, none⟩) 1 1 (by rfl) rfl (SlG.newAt (by simp) bOkQ.len [⟨some ⟨w9.heap.size, 0, none⟩, 1, 1, [⟨⟨h9A, h9n, h9c, h9xs⟩, N * M⟩]⟩] rfl) (by rw [hpn2.out]; have := hn2.out; simp [maxLen]; omega) (by rw [hpn2.out]; have := hn2.out; simp; omega) (by have := HbW9.out.size; simp; omega) ?_
               intro A3 c3 w2 hv hg hloc
               rw [hpn2.out] at hv hloc ⊢
               have HX := Lib.hid (below_two w9 (.cells #[.slice h9A h9n h9c, .int .i64 (N * M)] 44) (.cells #[.slice (some ⟨w9.heap.size, 0, none⟩) 1 1] 30))
               have Hv2 := Lib.hid hv
               have Hb2 := Lib.hid ((HbW9.out.trans (HX.out.mono HbW9.out.size)).grown hg (by have := HbW9.out.size; simp; omega) (fun g hg' => (HP9.out.own.lt g hg').1))
               have Hpl9 : Hid (h9xs = xs ++ zs) := Lib.hid Hn9.out.2.1
               have HSf : Hid (Safe ((w9.alloc (.cells #[.slice h9A h9n h9c, .int .i64 (N * M)] 44)).alloc (.cells #[.slice (some ⟨w9.heap.size, 0, none⟩) 1 1] 30)) (Value.slice A2 n2 c2).ownBlock ⟨some ⟨w9.heap.size, 0, none⟩, 1, 1, [⟨⟨h9A, h9n, h9c, h9xs⟩, N * M⟩]⟩) := Lib.hid (Safe.new ⟨rfl, by unfold maxLen; omega, (SlG.new cOk.len [⟨⟨h9A, h9n, h9c, h9xs⟩, N * M⟩] rfl).after (below_one _ _), fun c hc => by rw [List.mem_singleton] at hc; subst hc; exact Hn9.out.1.after HX.out⟩ (by simp; omega) (fun e => by have := Hur8.out _ e; have := Hs89.out; omega) (fun b off hA => ⟨fun e => by have h1 := Hur8.out _ e; have h2 := (Hn9.out.2.2 b off hA).1; omega, by have h2 := (Hn9.out.2.2 b off hA).2; simp; omega⟩))
               have HP2 := Lib.hid ((HP9.out.after HX.out).more HSf.out (r := (xs ++ zs, N * M)) (by show [(h9xs, N * M)] = [(xs ++ zs, N * M)]; rw [Hpl9.out]) rfl hv hg hloc)
               have HGCa : Hid (w2.cell? ⟨L, 0, none⟩ = some (.slice xA xn xc) ∧ w2.cell? ⟨L, 1, none⟩ = some (.int .i64 N) ∧ w2.cell? ⟨Rr, 0, none⟩ = some (.slice zA zn zc) ∧ w2.cell? ⟨Rr, 1, none⟩ = some (.int .i64 M)) := Lib.hid (by
                have t1 : L < w9.heap.size := Nat.lt_of_lt_of_le HL8.out Hs89.out
                have t2 : Rr < w9.heap.size := Nat.lt_of_lt_of_le elg.out Hs89.out
                have b1 : w2.heap[L]? = w9.heap[L]? := (hg.block _ (Nat.lt_of_lt_of_le t1 HX.out.size) (fun e => hu2.out e.symm)).trans (HX.out.block _ t1)
                have b2 : w2.heap[Rr]? = w9.heap[Rr]? := (hg.block _ (Nat.lt_of_lt_of_le t2 HX.out.size) (fun e => HuR.out e.symm)).trans (HX.out.block _ t2)
                refine ⟨?_, ?_, ?_, ?_⟩
                · rw [← HGC9.out.1]; simp only [World.cell?, b1]
                · rw [← HGC9.out.2.1]; simp only [World.cell?, b1]
                · rw [← HGC9.out.2.2.1]; simp only [World.cell?, b2]
                · rw [← HGC9.out.2.2.2]; simp only [World.cell?, b2])
               have HL2 : Hid (L < w2.heap.size) := Lib.hid (by have := HL8.out; have := Hs89.out; have := HX.out.size; have := hg.size; omega)
               have HU2 : Hid ((Value.slice A3 (n2 + 1) c3).ownBlock ≠ some L) := Lib.hid (by
                rcases hloc with e | e
                · rw [show (Value.slice A3 (n2 + 1) c3).ownBlock = _ from e]; exact hu2.out
                · rw [show (Value.slice A3 (n2 + 1) c3).ownBlock = _ from e]
                  intro e2
                  injection e2 with e2
                  have := HL8.out; have := Hs89.out
                  simp at e2
                  omega)
               clear hv hg hloc HX))
         have HPf : Hid (PrsIn w2 W.heap.size (.slice A3 (n2 + 1) c3) (ps2 ++ [⟨some ⟨w9.heap.size, 0, none⟩, 1, 1, [⟨⟨h9A, h9n, h9c, h9xs⟩, N * M⟩]⟩]) (P ++ (pl (Rl.take (q' + 1))).map (fun y => (xs ++ y.1, N * y.2)))) := Lib.hid (by
          have h1 := Hpt.out
          try simp only at h1
          rw [h1, List.map_append, ← List.append_assoc]
          exact HP2.out)
         have HNf : Hid (n2 + 1 = n' + (q' + 1)) := Lib.hid (by have := hn2.out; omega)
         have HLf : Hid ((ps2 ++ [(⟨some ⟨w9.heap.size, 0, none⟩, 1, 1, [⟨⟨h9A, h9n, h9c, h9xs⟩, N * M⟩]⟩ : Bh)]).length = n2 + 1) := Lib.hid (by rw [List.length_append, hpn2.out]; rfl)
         have HCf : Hid (w2.cell? ⟨L, 0, none⟩ = some (.slice xA xn xc) ∧ w2.cell? ⟨L, 1, none⟩ = some (.int .i64 N)) := Lib.hid ⟨HGCa.out.1, HGCa.out.2.1⟩
         clear HGC9 HGC10 HGCa HP9 HP2 Hn9 HSf Hb89
         go_wp2
         go_roundw
         case rel => exact ⟨q' + 1, n2 + 1, A3, c3, _, by omega, by go_num, rfl, HNf, Hb2, HPf, HLf, HCf, HL2, HU2⟩
         case measure => simp [intOf]; omega
       · obtain rfl : q' = rn := by omega
         have HP9 : Hid (PrsIn wr W.heap.size (.slice A2 n2 c2) ps2 (pairL i j (pl (cs.take (k + 1))) (pl ds))) := Lib.hid (by
          have h1 := hp2.out
          rw [show Rl.take q' = Rl from List.take_of_length_le (by rw [HRn.out]; exact Nat.le_refl _), ← Ht3.out] at h1
          exact h1)
         have hn9 : n2 ≤ 10000 := by have := hn2.out; omega
         go_wp2_with fail
         go_roundw
         case rel => exact ⟨k + 1, n2, A2, c2, ps2, by omega, by go_num, rfl, hn9, hb2, HP9, hpn2⟩
         case measure => simp [intOf]; omega
  · obtain rfl : k = n := by omega
    have HF : Hid (PairSaid w (pairL i j (pl cs) (pl ds)) (.slice A' n' c') true wr) := Lib.hid (by
     have hp1 := hp.out
     rw [show cs.take k = cs from List.take_of_length_le (by rw [HAW.out.len]; exact Nat.le_refl _)] at hp1
     refine ⟨below_via HbW.out hb.out, ?_, fun _ => ⟨A', n', c', ps, rfl, hpn.out, ?_, fun p hpp => (hp1.safe p hpp).in, by rw [tot_one ps hp1.one, hpn.out], hp1.map⟩⟩
     · rw [← hp1.len, hpn.out, decide_eq_true hn']
     · obtain ⟨A2, c2, e2, _, _, hs2⟩ := hp1.own.sl bOkQ.len
       injection e2 with e2
       rw [e2]
       exact hs2)
    go_wp2
    go_ret2
    exact ⟨_, _, rfl, HF.out⟩
end Go.Proofs.YtbpopkgpepmlcaaGreat
