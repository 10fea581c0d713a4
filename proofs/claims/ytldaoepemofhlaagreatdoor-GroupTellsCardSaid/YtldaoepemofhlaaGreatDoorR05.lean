/-
  Part 5 of 6 of what the proof leans on: each part below says what it proves, and of what; no condition besides.
-/
import Derived.Test.YtldaoepemofhlaaGreatDoorR01
import Derived.Test.YtldaoepemofhlaaGreatDoorR02
import Derived.Test.YtldaoepemofhlaaGreatDoorR03
import Derived.Test.YtldaoepemofhlaaGreatDoorR04
import Derived.Deep.RegionHeld3
set_option linter.unusedVariables false
set_option linter.unusedSimpArgs false
namespace Go.Proofs.YtldaoepemofhlaaGreatDoor
open Go Go.RowKit Go.MapKept
set_option maxRecDepth 100000
attribute [local go_sem ↓] Go.wp_at_zero Go.wp_at_succ
section
variable {MT E : TypeId}
theorem run_updS {w : World} {b : Nat} {l : List (ByteArray × Value)} (hm : Tryz.prog.underlying MT = some (.map 9 E)) (h : MapS w b l) (k : ByteArray) (v : Value) :
 ∃ w', (Instr.mapUpdate MT (.map (some b)) (.string k) v).run Tryz.prog w = .ok () w' ∧ MapS w' b (putS l k v) ∧ w.grownBy w' (some b) ∧ w'.heap.size = w.heap.size := by
 obtain ⟨es, clk, hb, ⟨hs1, hs2⟩, he⟩ := h
 have hc := run_checkS w false k
 rcases run_findS k w es.toList l he with ⟨h1, h2, h3⟩ | ⟨j, p, h1, h2, h3, h4, h5⟩
 · refine ⟨{ w with heap := w.heap.setIfInBounds b (.map (es.push ⟨.string k, v, clk⟩) (clk + 1)) }, ?_, ⟨_, _, (heap_set hb).1, ⟨?_, ?_⟩, ?_⟩, grown_setS hb _, by simp⟩
   · simp [Instr.mapUpdate, run_underlying hm, MapKept.run_getObj_map hb, hc, h1, MapKept.run_setObj_map _ hb, Result.andThen]
   · intro e he1
     simp only [Array.toList_push, List.mem_append, List.mem_singleton] at he1
     rcases he1 with he1 | rfl
     · exact Nat.lt_succ_of_lt (hs1 e he1)
     · exact Nat.lt_succ_self _
   · simp only [Array.toList_push, List.map_append, List.map_cons, List.map_nil]
     refine List.nodup_append.2 ⟨hs2, by simp, ?_⟩
     intro a ha c hc1
     rw [List.mem_singleton] at hc1
     subst hc1
     obtain ⟨x, hx, rfl⟩ := List.mem_map.1 ha
     exact Nat.ne_of_lt (hs1 x hx)
   · rw [h3 v]
     simp [he]
 · have hj : ∃ e0, es[j]? = some e0 ∧ e0.key = .string k := by
    have h6 := congrArg (fun t => t[j]?) he
    simp only [List.getElem?_map, h3, Option.map_some, Array.getElem?_toList] at h6
    cases h7 : es[j]? with
    | none => rw [h7] at h6; cases h6
    | some e0 =>
      rw [h7] at h6
      simp only [Option.map_some, Option.some.injEq, Prod.mk.injEq] at h6
      exact ⟨e0, rfl, by rw [h6.1, h4]⟩
   obtain ⟨e0, hj, hk0⟩ := hj
   have hs := run_staysS w k
   refine ⟨{ w with heap := w.heap.setIfInBounds b (.map (es.modify j fun e => { e with key := .string k, val := v }) clk) }, ?_, ⟨_, _, (heap_set hb).1, ⟨?_, ?_⟩, ?_⟩, grown_setS hb _, by simp⟩
   · simp [Instr.mapUpdate, run_underlying hm, MapKept.run_getObj_map hb, hc, h1, hj, hk0, hs, MapKept.run_setObj_map _ hb, Result.andThen]
   · intro x hx
     obtain ⟨i, hi⟩ := List.mem_iff_getElem?.1 hx
     rw [Array.getElem?_toList, Array.getElem?_modify] at hi
     split at hi
     · cases h1 : es[i]? with
       | none => rw [h1] at hi; cases hi
       | some y =>
         rw [h1] at hi
         cases hi
         exact hs1 y (by rw [Array.mem_toList_iff]; exact Array.mem_of_getElem? h1)
     · exact hs1 x (by rw [Array.mem_toList_iff]; exact Array.mem_of_getElem? hi)
   · have : (es.modify j fun e => { e with key := .string k, val := v }).toList.map (·.born) = es.toList.map (·.born) := by
      apply List.ext_getElem?
      intro i
      rw [List.getElem?_map, List.getElem?_map, Array.getElem?_toList, Array.getElem?_toList, Array.getElem?_modify]
      split
      · cases es[i]? <;> rfl
      · rfl
     rw [this]
     exact hs2
   · rw [h5 v]
     apply List.ext_getElem?
     intro i
     have h6 := congrArg (fun t => t[i]?) he
     simp only [List.getElem?_map, Array.getElem?_toList] at h6
     rw [List.getElem?_map, Array.getElem?_toList, Array.getElem?_modify, List.getElem?_map, List.getElem?_set]
     by_cases hij : j = i
     · subst hij
       rw [if_pos rfl, if_pos rfl]
       have hl : j < l.length := (List.getElem?_eq_some_iff.1 h3).1
       rw [hj]
       simp [hl]
     · rw [if_neg hij, if_neg hij]
       exact h6
end
theorem getS_put (l : List (ByteArray × Value)) (k : ByteArray) (v : Value) (x : ByteArray) : getS (putS l k v) x = if x == k then some v else getS l x := by
 induction l with
 | nil => rfl
 | cons p l ih =>
   rw [putS]
   cases hk : k == p.1
   · simp only [Bool.false_eq_true, if_false, getS]
     cases hx : x == p.1
     · simp only [Bool.false_eq_true, if_false]; exact ih
     · simp only [if_true]
       rw [if_neg]
       rw [eqS_iff.1 hx]
       intro h
       rw [eqS_iff.1 h, eqS_self] at hk
       cases hk
   · simp only [if_true, getS]
     rw [← eqS_iff.1 hk]
     cases hx : x == k <;> rfl
def atS (l : List (ByteArray × Value)) (x : ByteArray) : Value := (getS l x).getD nilS
theorem putS_at (l : List (ByteArray × Value)) (k : ByteArray) (v : Value) (x : ByteArray) : atS (putS l k v) x = if x == k then v else atS l x := by
 unfold atS
 rw [getS_put]
 split <;> rfl
structure GrpS (w : World) (B b : Nat) (l : List (ByteArray × Value)) (F : ByteArray → List Ct) : Prop where
 map : MapS w b l
 each : ∀ x, OwnG w B 49 2 rdC (atS l x) (F x)
 apart : ∀ x y, x ≠ y → ∀ g, (atS l x).ownBlock = some g → (atS l y).ownBlock ≠ some g
 bB : b < B
theorem GrpS.after {w w' : World} {B b : Nat} {l : List (ByteArray × Value)} {F : ByteArray → List Ct} (h : GrpS w B b l F) (hb : Below w.heap.size w w') : GrpS w' B b l F := ⟨h.map.after hb, fun x => (h.each x).after hb, h.apart, h.bB⟩
theorem GrpS.ne {w : World} {B b : Nat} {l : List (ByteArray × Value)} {F : ByteArray → List Ct} (h : GrpS w B b l F) (x : ByteArray) : ∀ g, (atS l x).ownBlock = some g → g ≠ b := fun g hg => by
 have := ((h.each x).lt g hg).1
 have := h.bB
 omega
theorem GrpS.step {wr W4 w2 w3 w5 : World} {B b : Nat} {l : List (ByteArray × Value)} {F : ByteArray → List Ct} {y : ByteArray} {c : Ct} {v' : Value} (hg : GrpS wr B b l F) (h4 : Below wr.heap.size wr W4) (h2 : W4.grownBy w2 (some b)) (hs2 : w2.heap.size = W4.heap.size)
 (hv : OwnG w3 B 49 2 rdC v' (F y ++ [c])) (h3 : w2.grownBy w3 (atS l y).ownBlock) (hloc : v'.ownBlock = (atS l y).ownBlock ∨ v'.ownBlock = some w2.heap.size) (hM : MapS w5 b (putS l y v')) (h5 : w3.grownBy w5 (some b)) :
 GrpS w5 B b (putS l y v') (fun x => if x == y then F y ++ [c] else F x) := by
 have hold : ∀ x g, (atS l x).ownBlock = some g → g < wr.heap.size := fun x g hx => ((hg.each x).lt g hx).2
 refine ⟨hM, fun x => ?_, fun x z hne g hx hz => ?_, hg.bB⟩
 · rw [putS_at]
   cases hx : x == y
   · rw [if_neg (by simp), if_neg (by simp)]
     refine (hg.each x).same fun k hk => ?_
     have hk1 := hold x k hk
     have hkb := hg.ne x k hk
     have hky : some k ≠ (atS l y).ownBlock := fun e => hg.apart x y (fun e2 => by rw [e2, eqS_self] at hx; cases hx) k hk e.symm
     have s4 := h4.size
     have s3 := h3.size
     rw [h5.block k (by omega) (by intro e; cases e; exact hkb rfl), h3.block k (by omega) hky, h2.block k (by omega) (by intro e; cases e; exact hkb rfl), h4.block k hk1]
   · rw [if_pos rfl, if_pos rfl]
     refine hv.same fun k hk => ?_
     have h7 := hv.lt k hk
     have := hg.bB
     exact h5.block k h7.2 (by intro e; cases e; omega)
 · rw [putS_at] at hx hz
   have s4 := h4.size
   cases e1 : x == y
   · rw [e1] at hx
     simp only [Bool.false_eq_true, if_false] at hx
     cases e2 : z == y
     · rw [e2] at hz
       simp only [Bool.false_eq_true, if_false] at hz
       exact hg.apart x z hne g hx hz
     · rw [e2] at hz
       simp only [if_true] at hz
       rcases hloc with h | h
       · rw [h] at hz
         have := eqS_iff.1 e2
         subst this
         exact hg.apart x z hne g hx hz
       · rw [h] at hz
         cases hz
         have := hold x _ hx
         omega
   · rw [e1] at hx
     simp only [if_true] at hx
     have e3 := eqS_iff.1 e1
     subst e3
     cases e2 : z == x
     · rw [e2] at hz
       simp only [Bool.false_eq_true, if_false] at hz
       rcases hloc with h | h
       · rw [h] at hx
         exact hg.apart x z hne g hx hz
       · rw [h] at hx
         cases hx
         have := hold z _ hz
         omega
     · exact hne (eqS_iff.1 e2).symm
theorem wpList_lookS {MT E : TypeId} {ops : Array Oper} {rest : List Oper} {o : Oper} {a : Act} {Q : Exit → Act → World → Prop} {w : World} (hgd : o.guard = none) (m x : Operand) (ho : o.op = .lookup MT m x false)
 (hm : Tryz.prog.underlying MT = some (.map 9 E)) (hz : (zeroValue E).run Tryz.prog w = .ok nilS w) (b : Nat) (l : List (ByteArray × Value)) (k : ByteArray) (v : Value) (hv : atS l k = v) (he : a.eval m = .map (some b)) (hx : a.eval x = .string k) (hM : MapS w b l)
 (h : wpList Tryz.prog ops Q rest (a.put o.dst v) w) : wpList Tryz.prog ops Q (o :: rest) a w := by
 refine wpList_plain hgd fun K hK => ?_
 have hr := run_lookS hm nilS hz hM k
 have hr2 : (getS l k).getD nilS = v := hv
 rw [hr2] at hr
 unfold Oper.wp
 simp [execOp, ho, he, hx, hr, Result.andThen]
 exact hK _ _ h
theorem wpList_updS {MT E : TypeId} {ops : Array Oper} {rest : List Oper} {o : Oper} {a : Act} {Q : Exit → Act → World → Prop} {w : World} (hgd : o.guard = none) (m s x : Operand) (ho : o.op = .mapUpdate MT m s x)
 (hm : Tryz.prog.underlying MT = some (.map 9 E)) (b : Nat) (l : List (ByteArray × Value)) (k : ByteArray) (v : Value) (he : a.eval m = .map (some b)) (hs : a.eval s = .string k) (hx : a.eval x = v) (hM : MapS w b l)
 (h : ∀ w' : World, MapS w' b (putS l k v) → w.grownBy w' (some b) → w'.heap.size = w.heap.size → wpList Tryz.prog ops Q rest (a.put o.dst undef) w') : wpList Tryz.prog ops Q (o :: rest) a w := by
 refine wpList_plain hgd fun K hK => ?_
 obtain ⟨w', hr, h1, h2, h3⟩ := run_updS hm hM k v
 unfold Oper.wp
 simp [execOp, ho, he, hs, hx, hr, Result.andThen]
 exact hK _ _ (h w' h1 h2 h3)
theorem may_sz {x : Val} (h : mayB x = true) : x.s.size ≤ 1000 := by
 rcases valid_of_may x h with ⟨_, _, h1⟩ | ⟨_, _, h1⟩ | ⟨_, h1⟩ | ⟨_, _, h1⟩
 · rw [h1]; decide
 · rw [h1]; decide
 · rw [h1]; decide
 · exact h1
def keyT (ps : List Int) (xs : List Val) : Option ByteArray := (pickR xs ps).map fun q => ⟨(rowT q).toArray⟩
def keyF (ps : List Int) (cs : List Ct) (x : ByteArray) : List Ct := cs.filter fun c => match keyT ps c.h.xs with | some y => x == y | none => false
theorem keyF_none {ps : List Int} {cs : List Ct} {k : Nat} {c : Ct} (hc : cs[k]? = some c) (h0 : pickR c.h.xs ps = none) : keyF ps (cs.take (k + 1)) = keyF ps (cs.take k) := by
 funext x
 unfold keyF
 rw [List.take_add_one, hc, List.filter_append]
 show _ ++ [c].filter _ = _
 rw [List.filter_cons_of_neg (by unfold keyT; rw [h0]; exact Bool.false_ne_true), List.filter_nil, List.append_nil]
theorem keyF_more {ps : List Int} {cs : List Ct} {k : Nat} {c : Ct} {q : List Val} (hc : cs[k]? = some c) (h0 : pickR c.h.xs ps = some q) :
 keyF ps (cs.take (k + 1)) = fun x => if x == (⟨(rowT q).toArray⟩ : ByteArray) then keyF ps (cs.take k) ⟨(rowT q).toArray⟩ ++ [c] else keyF ps (cs.take k) x := by
 funext x
 have h1 : keyT ps c.h.xs = some ⟨(rowT q).toArray⟩ := by unfold keyT; rw [h0]; rfl
 unfold keyF
 rw [List.take_add_one, hc, List.filter_append]
 show _ ++ [c].filter _ = _
 cases hx : x == (⟨(rowT q).toArray⟩ : ByteArray)
 · rw [List.filter_cons_of_neg (by rw [h1]; simp only; rw [hx]; exact Bool.false_ne_true), List.filter_nil, List.append_nil]
   rfl
 · have e := eqS_iff.1 hx
   rw [List.filter_cons_of_pos (by rw [h1]; exact hx), List.filter_nil, if_pos rfl, e]
structure KeySaid (w : World) (ps : List Int) (cs : List Ct) (b : Nat) (l : List (ByteArray × Value)) (w' : World) : Prop where
 below : Below w.heap.size w w'
 grp : GrpS w' (w.heap.size + 1) b l (keyF ps cs)
set_option maxHeartbeats 4000000 in
theorem byPick_c (P A : Option Addr) (m d n c : Nat) (ps : List Int) (cs : List Ct) (w : World) (hB : BgIn w A n cs) (hm : mayBag (pl cs) = true) (hn : n ≤ 10000) (hp : ps.length = m) (hm40 : m ≤ 40) (hps : SlG w P 1 rdI ps) (hG : Gl w) :
 Calls Tryz.prog 30 #[.slice P m d, .slice A n c] w fun e w' => ∃ b l, e = .returned (.map (some b)) ∧ KeySaid w ps cs b l w' := by
 have HB := Lib.hid hB
 have Hma := Lib.hid hm
 have Hp := Lib.hid hp
 have Hps := Lib.hid hps
 have HGl := Lib.hid hG
 clear hB hm hp hps hG
 have hmm := @run_makeMap Tryz.prog
 go_enter Tryz.func30, Tryz.ntmps30
 go_wp2_with fail
 have Hg0 : Hid (GrpS (w.alloc (.map #[] 0)) (w.heap.size + 1) w.heap.size [] (keyF ps (cs.take 0))) := Lib.hid ⟨MapS.made w, fun x => OwnG.nil _ _ _, fun x y _ g hg => (by cases hg), Nat.lt_succ_self _⟩
 have Hb0 : Hid (Below w.heap.size w (w.alloc (.map #[] 0))) := Lib.hid (below_one _ _)
 have Hs0 : Hid (w.heap.size + 1 ≤ (w.alloc (.map #[] 0)).heap.size) := Lib.hid (by simp)
 clear hmm
 go_loopw [14] (fun q wr => ∃ (k : Nat) (l : List (ByteArray × Value)), k ≤ n ∧ q = .int .i64 k ∧ Hid (Below w.heap.size w wr) ∧ Hid (w.heap.size + 1 ≤ wr.heap.size) ∧ Hid (GrpS wr (w.heap.size + 1) w.heap.size l (keyF ps (cs.take k)))) (fun q _ => n - (intOf q).toNat)
 case atStart => exact ⟨0, [], Nat.zero_le _, rfl, Hb0, Hs0, Hg0⟩
 case round =>
  obtain ⟨k, l, hk, rfl, hb, hs, hg⟩ := hrel
  clear Hb0 Hs0 Hg0
  by_cases hlt : k < n
  · obtain ⟨b, off, rfl⟩ := HB.out.sl.some2 (k := k) (by rw [HB.out.len]; exact hlt)
    obtain ⟨x, hx⟩ : ∃ x, cs[k]? = some x := ⟨_, List.getElem?_eq_getElem (by rw [HB.out.len]; exact hlt)⟩
    obtain ⟨hblt, c0, c1⟩ := HB.out.sl.cell2 hx
    have d0 := (hb.out.cell (p := ⟨b, off + k * 2, none⟩) hblt).trans c0
    have d1 := (hb.out.cell (p := ⟨b, off + k * 2 + 1, none⟩) hblt).trans c1
    have l0 : b < wr.heap.size := Nat.lt_of_lt_of_le hblt hb.out.size
    have Hx := Lib.hid ((HB.out.each x (List.mem_of_getElem? hx)).after hb.out)
    have Hlen : Hid (∀ y, (keyF ps (cs.take k) y).length ≤ k) := Lib.hid (fun y => by
     have h1 : (keyF ps (cs.take k) y).length ≤ (cs.take k).length := List.length_filter_le _ _
     have h2 : (cs.take k).length ≤ k := by rw [List.length_take]; omega
     exact Nat.le_trans h1 h2)
    have Hnone := Lib.hid (fun h => keyF_none (ps := ps) hx h)
    have Hmore := Lib.hid (fun q (h : pickR x.h.xs ps = some q) => keyF_more hx h)
    have Hmay := Lib.hid (may_row Hma.out (List.mem_of_getElem? (pl_at hx)))
    clear c0 c1 hx
    obtain ⟨⟨xA, xn, xc, xs⟩, N⟩ := x
    have hgo : (k : Int) < n := by omega
    have Hb1 : Hid (Below wr.heap.size wr (wr.alloc (.cells #[.slice xA xn xc, .int .i64 N] 49))) := Lib.hid (below_one _ _)
    have dg0 : Hid ((wr.alloc (.cells #[.slice xA xn xc, .int .i64 N] 49)).cell? ⟨wr.heap.size, 0, none⟩ = some (.slice xA xn xc)) := Lib.hid (by simp)
    have dg1 : Hid ((wr.alloc (.cells #[.slice xA xn xc, .int .i64 N] 49)).cell? ⟨wr.heap.size, 1, none⟩ = some (.int .i64 N)) := Lib.hid (by simp)
    have lg1 : wr.heap.size < (wr.alloc (.cells #[.slice xA xn xc, .int .i64 N] 49)).heap.size := by simp
    have Hx1 := Lib.hid (Hx.out.after Hb1.out)
    have HP1 := Lib.hid ((Hps.out.after hb.out).after Hb1.out)
    try simp only at d0 d1
    go_wp2_with fail
    refine (pickL_c xA P xn xc m d xs ps _ Hx1.out.hd.len Hx1.out.hd.max Hx1.out.hd.sl Hp.out (by omega) HP1.out).mono ?_
    rintro e w9 ⟨h9, ok, rfl, hb9, hIn9, hok9, hl9, hr9⟩
    have g0 := (hb9.cell (p := ⟨wr.heap.size, 0, none⟩) lg1).trans dg0.out
    have g1 := (hb9.cell (p := ⟨wr.heap.size, 1, none⟩) lg1).trans dg1.out
    have lg9 : wr.heap.size < w9.heap.size := Nat.lt_of_lt_of_le lg1 hb9.size
    have Hb9 := Lib.hid (below_via Hb1.out hb9)
    unfold pickOk at hok9
    cases hpr : pickR xs ps with
    | none =>
      rw [hpr] at hok9
      obtain ⟨rfl, _⟩ := hok9
      have HGf : Hid (GrpS w9 (w.heap.size + 1) w.heap.size l (keyF ps (cs.take (k + 1)))) := Lib.hid (by rw [Hnone.out hpr]; exact hg.out.after Hb9.out)
      have HBf := Lib.hid (below_via hb.out Hb9.out)
      have HSf : Hid (w.heap.size + 1 ≤ w9.heap.size) := Lib.hid (Nat.le_trans hs.out Hb9.out.size)
      obtain ⟨h9A, h9n, h9c, h9xs⟩ := h9
      dsimp only [Hd.v]
      clear Hnone Hmore Hmay Hlen hg hb hs dg0 dg1 Hb1 Hx1 HP1 d0 d1 hb9 hIn9 hl9 hpr g0 g1
      go_wp2_with fail
      go_roundw
      case rel => exact ⟨k + 1, l, by omega, by go_num, HBf, HSf, HGf⟩
      case measure => simp [intOf]; omega
    | some q =>
      rw [hpr] at hok9
      obtain ⟨rfl, hq⟩ := hok9
      have Hpl : Hid (q.length ≤ 40) := Lib.hid (by rw [pick_len ps xs q hpr, Hp.out]; exact hm40)
      have Hqm : Hid (∀ v ∈ q, v ∈ xs) := Lib.hid (pick_mem hpr)
      have HM := Lib.hid (Hmore.out q hpr)
      obtain ⟨h9A, h9n, h9c, h9xs⟩ := h9
      have Hq : Hid (h9xs = q) := Lib.hid hq
      have HIn9 := Lib.hid hIn9
      have Hg9 := Lib.hid (hg.out.after Hb9.out)
      obtain ⟨hg0, _⟩ : ∃ h : Hid (GrpS wr (w.heap.size + 1) w.heap.size l (keyF ps (cs.take k))), True := ⟨hg, trivial⟩
      have HGl9 := Lib.hid ((HGl.out.after hb.out).after Hb9.out)
      dsimp only [Hd.v]
      clear Hnone Hmore hg dg0 dg1 Hb1 HP1 d0 d1 hb9 hIn9 hl9 hpr hq
      go_wp2_with fail
      refine (rtext_c h9A h9n h9c h9xs _ HIn9.out.len (by have h1 := HIn9.out.len; have h2 := Hpl.out; have h3 := Hq.out; simp only at h1; subst h3; omega) HIn9.out.sl (fun v hv => Hx1.out.n64 v (Hqm.out v (by rw [← Hq.out]; exact hv))) (fun v hv => by
       have := Hmay.out.2.1 v (Hqm.out v (by rw [← Hq.out]; exact hv))
       exact Nat.le_trans (may_sz this) (by decide)) HGl9.out).mono ?_
      rintro e w1 ⟨rfl, hb1⟩
      have f0 := (hb1.cell (p := ⟨wr.heap.size, 0, none⟩) lg9).trans g0
      have f1 := (hb1.cell (p := ⟨wr.heap.size, 1, none⟩) lg9).trans g1
      have lg2 : wr.heap.size < w1.heap.size := Nat.lt_of_lt_of_le lg9 hb1.size
      have Hb2 := Lib.hid (below_via Hb9.out hb1)
      have Hg2 := Lib.hid (Hg9.out.after hb1)
      obtain ⟨y, hy⟩ : ∃ y, (⟨(rowT q).toArray⟩ : ByteArray) = y := ⟨_, rfl⟩
      have hMM := HM.out
      rw [hy] at hMM
      rw [show h9xs = q from Hq.out, hy]
      have Hl3 := Lib.hid (Hlen.out y)
      obtain ⟨R, hR⟩ : ∃ R : ByteArray → List Ct, (fun x => if x == y then keyF ps (cs.take k) y ++ [{ h := { A := xA, n := xn, c := xc, xs := xs }, N := N }] else keyF ps (cs.take k) x) = R := ⟨_, rfl⟩
      rw [hR] at hMM
      have HMM := Lib.hid hMM
      have HR := Lib.hid hR
      clear hR hMM HM hb1 g0 g1 hy Hg9 HGl9 Hx1
      have Hb4 : Hid (Below wr.heap.size wr (w1.alloc (.cells #[.slice xA xn xc, .int .i64 N] 49))) := Lib.hid (below_via Hb2.out (below_one _ _))
      have Hsl : Hid (SlG (w1.alloc (.cells #[.slice xA xn xc, .int .i64 N] 49)) (some ⟨w1.heap.size, 0, none⟩) 2 rdC [⟨⟨xA, xn, xc, xs⟩, N⟩]) := Lib.hid (SlG.newAt rfl cOk.len [⟨⟨xA, xn, xc, xs⟩, N⟩] rfl)
      have Hg4 := Lib.hid (Hg2.out.after (below_one w1 (.cells #[.slice xA xn xc, .int .i64 N] 49)))
      have Hnn : Hid (∀ o, (Value.slice h9A h9n h9c).ownBlock = o → True) := Lib.hid (fun _ _ => trivial)
      clear Hnn HIn9 Hx Hmay Hqm Hpl
      go_wp2_with (first
       | (at_lookup; go_must (
          refine wpList_lookS rfl (.tmp 30) (.tmp 31) rfl Tryz.underlying66 (by kernel_rfl) w.heap.size l y (atS l y) rfl rfl rfl Hg2.out.map ?_))
       | (at_builtin; go_must (
          refine wpList_appL cOk rfl (.tmp 32) (.tmp 34) rfl (w.heap.size + 1) (atS l y) (keyF ps (cs.take k) y) [⟨⟨xA, xn, xc, xs⟩, N⟩] (some ⟨w1.heap.size, 0, none⟩) 1 1 rfl
           (Hg4.out.each y) rfl rfl Hsl.out (by have := Hl3.out; simp [maxLen]; omega) (by have := Hl3.out; simp; omega) (by have := hs.out; have := Hb4.out.size; omega) ?_
          intro v3 w3 hv3 hg3 hl3
          have Hv3 := Lib.hid hv3
          have Hg3 := Lib.hid hg3
          have Hloc3 := Lib.hid hl3
          have Hlt3 := Lib.hid ((hg0.out.each y).lt)
          clear hv3 hg3 hl3))
       | (refine wpList_updS rfl (.tmp 28) (.tmp 29) (.tmp 35) rfl Tryz.underlying66 w.heap.size l y v3 rfl rfl rfl (Hg4.out.map.same (Hg3.out.block _ Hg4.out.map.lt (by intro e; exact hg0.out.ne y _ e.symm rfl))) ?_
          intro w5 hM5 hg5 hs5
          have HG5 := Lib.hid (hg0.out.step Hb4.out (World.grownBy.refl _ _) rfl Hv3.out Hg3.out Hloc3.out hM5 hg5)
          have Hb5 := Lib.hid (((hb.out.trans (Hb4.out.mono hb.out.size)).grown Hg3.out (by have := hb.out.size; have := Hb4.out.size; omega) (fun g hg' => by have := (Hlt3.out g hg').1; omega)).grown hg5 (by have := hb.out.size; have := Hb4.out.size; have := Hg3.out.size; omega) (fun g hg' => by cases hg'; exact Nat.le_refl _))
          have HS5 : Hid (w.heap.size + 1 ≤ w5.heap.size) := Lib.hid (by have := hs.out; have := Hb4.out.size; have := Hg3.out.size; omega)
          clear hM5 hg5 hs5))
      rw [HR.out, ← HMM.out] at HG5
      go_roundw
      case rel => exact ⟨k + 1, _, by omega, by go_num, Hb5, HS5, HG5⟩
      case measure => simp [intOf]; omega
  · obtain rfl : k = n := by omega
    have HF : Hid (KeySaid w ps cs w.heap.size l wr) := Lib.hid ⟨hb.out, by
     have := hg.out
     rw [show cs.take k = cs from List.take_of_length_le (by rw [HB.out.len]; exact Nat.le_refl _)] at this
     exact this⟩
    go_wp2
    go_ret
    exact ⟨_, _, rfl, HF.out⟩
end Go.Proofs.YtldaoepemofhlaaGreatDoor
namespace Go.Proofs.YtldaoepemofhlaaGreatDoor
open Go Go.RowKit
set_option maxRecDepth 100000
attribute [local go_sem ↓] Go.wp_at_zero Go.wp_at_succ
def rdA (a : Int × Int) : List Value := [.int .i64 a.1, .int .i64 a.2]
theorem SlG.atA {w : World} {A : Option Addr} {xs : List (Int × Int)} (h : SlG w A 2 rdA xs) {k : Nat} (hk : k < xs.length) :
 ∃ b off x, A = some ⟨b, off, none⟩ ∧ b < w.heap.size ∧ xs[k]? = some x ∧ w.cell? ⟨b, off + k * 2, none⟩ = some (.int .i64 x.1) ∧ w.cell? ⟨b, off + k * 2 + 1, none⟩ = some (.int .i64 x.2) := by
 rcases h with rfl | ⟨b, off, hA, hlt, h⟩
 · simp at hk
 · refine ⟨b, off, xs[k], hA, hlt, List.getElem?_eq_getElem hk, ?_, ?_⟩
   · exact h k xs[k] (List.getElem?_eq_getElem hk) 0 _ rfl
   · exact h k xs[k] (List.getElem?_eq_getElem hk) 1 _ rfl
def aggsE (b : Bg) : List (Int × Int) → Int
 | [] => 0
 | a :: l => if (aggR a.1 a.2 b).2 = 0 then aggsE b l else (aggR a.1 a.2 b).2
def aggsV (b : Bg) (l : List (Int × Int)) : List Val := l.map fun a => (aggR a.1 a.2 b).1
theorem aggsE_take {b : Bg} {l : List (Int × Int)} {k : Nat} {a : Int × Int} (ha : l[k]? = some a) : aggsE b (l.drop k) = if (aggR a.1 a.2 b).2 = 0 then aggsE b (l.drop (k + 1)) else (aggR a.1 a.2 b).2 := by
 have hk := (List.getElem?_eq_some_iff.1 ha).1
 have he : l[k] = a := (List.getElem?_eq_some_iff.1 ha).2
 rw [List.drop_eq_getElem_cons hk, he, aggsE]
theorem aggsV_take {b : Bg} {l : List (Int × Int)} {k : Nat} {a : Int × Int} (ha : l[k]? = some a) : aggsV b (l.take (k + 1)) = aggsV b (l.take k) ++ [(aggR a.1 a.2 b).1] := by
 unfold aggsV
 rw [List.take_add_one, ha, List.map_append]
 rfl
structure AggsSaid (w : World) (b : Bg) (ags : List (Int × Int)) (h : Hd) (er : Int) (w' : World) : Prop where
 below : Below w.heap.size w w'
 hin : Hd.In w' h
 said : er = aggsE b ags
 ok : er = 0 → h.xs = aggsV b ags ∧ (∀ b off, h.A = some ⟨b, off, none⟩ → w.heap.size ≤ b ∧ b < w'.heap.size) ∧ h.n ≤ h.c
 bad : er ≠ 0 → h = ⟨none, 0, 0, []⟩
set_option maxHeartbeats 2000000 in
theorem aggregates_c (L A : Option Addr) (m d n c : Nat) (ags : List (Int × Int)) (cs : List Ct) (w : World) (hL : SlG w L 2 rdA ags) (hm : ags.length = m) (hm1 : m ≤ 100) (hB : BgIn w A n cs) (hG : GOk (pl cs)) (hn : n ≤ 100000) :
 Calls Tryz.prog 31 #[.slice L m d, .slice A n c] w fun e w' => ∃ h er, e = .returned (.tuple #[Hd.v h, .int .i64 er]) ∧ AggsSaid w (pl cs) ags h er w' := by
 obtain ⟨cells, hcs, hmk⟩ := make_run vOk m (by omega) (by unfold maxLen; omega)
 have HL := Lib.hid hL
 have Hm := Lib.hid hm
 have HB := Lib.hid hB
 have HG := Lib.hid hG
 have Hcs := Lib.hid hcs
 clear hL hm hB hG hcs
 go_enter Tryz.func31, Tryz.ntmps31
 go_wp2_with fail
 have Hmk : Hid (Mk (w.alloc (.cells cells 39)) w.heap.size 3 m rdV []) := Mk.new w cells _ Hcs.out
 have Hb1 : Hid (Below w.heap.size w (w.alloc (.cells cells 39))) := below_one _ _
 clear hmk Hcs
 go_loopw [16] (fun i wr => ∃ k : Nat, k ≤ m ∧ i = .int .i64 k ∧ Hid (Below w.heap.size w wr) ∧ Hid (Mk wr w.heap.size 3 m rdV (aggsV (pl cs) (ags.take k)) ∧ aggsE (pl cs) ags = aggsE (pl cs) (ags.drop k))) (fun i _ => m - (intOf i).toNat)
 case atStart => exact ⟨0, Nat.zero_le _, rfl, Hb1, ⟨Hmk.out, rfl⟩⟩
 case round =>
  obtain ⟨k, hk, rfl, hb, hl⟩ := hrel
  clear Hmk Hb1
  by_cases hlt : k < m
  · obtain ⟨b, off, a, rfl, hblt, ha, c0, c1⟩ := HL.out.atA (by rw [Hm.out]; exact hlt)
    have d0 := (hb.out.cell (p := ⟨b, off + k * 2, none⟩) hblt).trans c0
    have d1 := (hb.out.cell (p := ⟨b, off + k * 2 + 1, none⟩) hblt).trans c1
    have l0 : b < wr.heap.size := Nat.lt_of_lt_of_le hblt hb.out.size
    have Hst := Lib.hid (aggsE_take (b := pl cs) ha)
    have Hsv := Lib.hid (aggsV_take (b := pl cs) ha)
    have Hlen : Hid ((aggsV (pl cs) (ags.take k)).length = k) := Lib.hid (by unfold aggsV; rw [List.length_map, List.length_take, Hm.out]; omega)
    clear ha c0 c1 hblt
    obtain ⟨fn, col⟩ := a
    try simp only at d0 d1
    have hw1 : Hid (Below wr.heap.size wr (wr.alloc (.cells #[.int .i64 fn, .int .i64 col] 32))) := Lib.hid (below_one _ _)
    have lw1 : wr.heap.size < (wr.alloc (.cells #[.int .i64 fn, .int .i64 col] 32)).heap.size := by simp
    go_wp2_with fail
    refine (aggregate_c A n c cs fn col _ ((HB.out.after hb.out).after hw1.out) HG.out hn).mono ?_
    rintro e w1 ⟨rfl, hb1⟩
    have hst := Hst.out
    have hsv := Hsv.out
    try simp only at hst hsv
    obtain ⟨⟨y, er⟩, hR⟩ : ∃ R, aggR fn col (pl cs) = R := ⟨_, rfl⟩
    rw [hR] at hst hsv ⊢
    have Hb2 := Lib.hid (below_via hw1.out hb1)
    have HM1 := Lib.hid (hl.out.1.after Hb2.out hl.out.1.lt)
    have HB2 := Lib.hid (hb.out.trans (Hb2.out.mono hb.out.size))
    have hls := Lib.hid hl.out.2
    have Hst2 := Lib.hid hst
    have Hsv2 := Lib.hid hsv
    have lA : w.heap.size < wr.heap.size := hl.out.1.lt
    have lB : wr.heap.size < w1.heap.size := Nat.lt_of_lt_of_le lw1 hb1.size
    dsimp only
    clear hst hsv hR hb1 hw1 Hst Hsv hl d0 d1
    by_cases he : er = 0
    · have he1 : (er != 0) = false := by simp [he]
      obtain ⟨u0, f0⟩ := HM1.out.all (k * 3) (by omega)
      obtain ⟨u1, f1⟩ := HM1.out.all (k * 3 + 1) (by omega)
      obtain ⟨u2, f2⟩ := HM1.out.all (k * 3 + 2) (by omega)
      have z0 := HM1.out.thaw (k * 3)
      have z1 := HM1.out.thaw (k * 3 + 1)
      have z2 := HM1.out.thaw (k * 3 + 2)
      have lC : w.heap.size < w1.heap.size := HM1.out.lt
      have Hs3 : Hid (aggsE (pl cs) ags = aggsE (pl cs) (ags.drop (k + 1))) := Lib.hid (by rw [hls.out, Hst2.out, if_pos he])
      have HB3 := Lib.hid (HB2.out.alloc HB2.out.size (.cells #[.int .i64 y.k, .int .i64 y.n, .string y.s] 39))
      have Hset := HM1.out.set3 y (by rw [Hlen.out]; exact hlt)
      rw [Hlen.out] at Hset
      have Hset2 := Lib.hid Hset
      clear Hset he
      go_wp2_with fail
      go_roundw
      case rel => exact ⟨k + 1, by omega, by go_num, Lib.hid ((((HB2.out.setCell (Nat.le_refl _) _).setCell (Nat.le_refl _) _).setCell (Nat.le_refl _) _).alloc (by simp [World.setCell]; exact HB2.out.size) _), Lib.hid ⟨by rw [Hsv2.out]; exact Hset2.out.after (below_one _ _) Hset2.out.lt, Hs3.out⟩⟩
      case measure => simp [intOf]; omega
    · have he1 : (er != 0) = true := by simp [he]
      have HF : Hid (AggsSaid w (pl cs) ags ⟨none, 0, 0, []⟩ er (w1.alloc (.cells #[.int .i64 y.k, .int .i64 y.n, .string y.s] 39))) := Lib.hid
       ⟨HB2.out.alloc HB2.out.size _, ⟨rfl, Nat.zero_le _, .inl rfl⟩, by rw [hls.out, Hst2.out, if_neg he], fun h => absurd h he, fun _ => rfl⟩
      clear he
      go_wp2_with fail
      go_ret2
      exact ⟨_, _, rfl, HF.out⟩
  · obtain rfl : k = m := by omega
    have HF : Hid (AggsSaid w (pl cs) ags ⟨some ⟨w.heap.size, 0, none⟩, k, k, aggsV (pl cs) ags⟩ 0 wr) := Lib.hid (by
     have h1 : ags.take k = ags := List.take_of_length_le (by rw [Hm.out]; exact Nat.le_refl _)
     have h2 : ags.drop k = [] := List.drop_eq_nil_of_le (by rw [Hm.out]; exact Nat.le_refl _)
     obtain ⟨h3, h4⟩ := hl.out
     rw [h1] at h3
     rw [h2] at h4
     exact ⟨hb.out, ⟨by unfold aggsV; rw [List.length_map, Hm.out], by unfold maxLen; show k ≤ _; omega, h3.slG.sl⟩, h4.symm, fun _ => ⟨rfl, fun b off e => (by cases e; exact ⟨Nat.le_refl _, h3.lt⟩), Nat.le_refl _⟩, fun h => absurd rfl h⟩)
    go_wp2_with fail
    go_ret2
    exact ⟨_, _, rfl, HF.out⟩
def aggF (fn col : Int) (b : Bg) : Val × Int := if refR b = 0 then aggR fn col b else (nl, refR b)
theorem agg_c (A : Option Addr) (n c : Nat) (cs : List Ct) (fn col : Int) (w : World) (hB : BgIn w A n cs) (hn : n ≤ 100000) :
 Calls Tryz.prog 12 #[.agg #[.int .i64 fn, .int .i64 col], .slice A n c] w fun e w' => e = .returned (.tuple #[(aggF fn col (pl cs)).1.v, .int .i64 (aggF fn col (pl cs)).2]) ∧ Below w.heap.size w w' := by
 have HB := Lib.hid hB
 clear hB
 obtain ⟨R, hR⟩ : ∃ R, aggF fn col (pl cs) = R := ⟨_, rfl⟩
 have HR := Lib.hid hR
 rw [hR]
 clear hR
 obtain ⟨V, hV⟩ : ∃ V, (w.alloc (.cells #[.int .i64 fn, .int .i64 col] 32)).alloc (.cells #[.int .i64 0, .int .i64 0, .string ⟨#[]⟩] 39) = V := ⟨_, rfl⟩
 have HV0 : Hid (Bf V w.heap.size #[.int .i64 fn, .int .i64 col] 32) := Lib.hid (by rw [← hV]; exact (Bf.new w _ _).over _)
 have HV1 : Hid (Bf V (w.heap.size + 1) #[.int .i64 0, .int .i64 0, .string ⟨#[]⟩] 39) := Lib.hid (by rw [← hV]; have := Bf.new (w.alloc (.cells #[.int .i64 fn, .int .i64 col] 32)) #[.int .i64 0, .int .i64 0, .string ⟨#[]⟩] 39; simpa using this)
 have HVb : Hid (Below w.heap.size w V) := Lib.hid (by rw [← hV]; exact below_two _ _ _)
 go_enter Tryz.func12, Tryz.ntmps12
 go_wp2_with fail
 clear hV
 refine (refusal_c A n c cs V (HB.out.after HVb.out) hn).mono ?_
 rintro e W ⟨rfl, hb1⟩
 obtain ⟨r, hr⟩ : ∃ r, refR (pl cs) = r := ⟨_, rfl⟩
 have Hr := Lib.hid hr
 rw [hr]
 have HB1 := Lib.hid hb1
 have lv0 : w.heap.size < V.heap.size := HV0.out.lt
 have B1 := HV1.out.after hb1 HV1.out.lt
 have HC1 := Lib.hid B1
 have e0 := B1.cell 0
 have e1 := B1.cell 1
 have e2 := B1.cell 2
 have t0 := B1.thaw 0
 have t1 := B1.thaw 1
 have t2 := B1.thaw 2
 have l5 := B1.lt
 have B2 := HV0.out.after hb1 HV0.out.lt
 have a0 := B2.cell 0
 have a1 := B2.cell 1
 have l6 := B2.lt
 clear hb1 B1 B2 hr
 by_cases h0 : r = 0
 · have h1 : (r != 0) = false := by simp [h0]
   have H0 := Lib.hid h0
   clear h0
   go_wp2_with fail
   refine (aggregate_c A n c cs fn col W ((HB.out.after HVb.out).after HB1.out) (refR_ok (by rw [Hr.out]; exact H0.out)).2 hn).mono ?_
   rintro e w5 ⟨rfl, hb5⟩
   have hRe : aggR fn col (pl cs) = R := by rw [← HR.out]; unfold aggF; rw [if_pos (by rw [Hr.out]; exact H0.out)]
   rw [hRe]
   have HB5 := Lib.hid (below_via HB1.out hb5)
   have B5 := HV1.out.after HB5.out HV1.out.lt
   have HC5 := Lib.hid B5
   clear hRe e0 e1 e2 t0 t1 t2 l5 a0 a1 l6
   have e0 := B5.cell 0
   have e1 := B5.cell 1
   have e2 := B5.cell 2
   have t0 := B5.thaw 0
   have t1 := B5.thaw 1
   have t2 := B5.thaw 2
   have l5 := B5.lt
   clear hb5 B5
   go_wp2_with fail
   exact ret_valE (a := R.1) Tryz.results12 rfl rfl (put3_box HC5.out R.1) rfl ⟨rfl, put3s_below (below_via HVb.out HB5.out) (Nat.le_succ _) _ _ _⟩
 · have h1 : (r != 0) = true := by simp [h0]
   have hRe : R = (nl, r) := by rw [← HR.out]; unfold aggF; rw [if_neg (by rw [Hr.out]; exact h0), Hr.out]
   subst hRe
   clear h0
   go_wp2_with fail
   exact ret_valE (a := nl) Tryz.results12 rfl rfl (put3_box HC1.out nl) rfl ⟨rfl, put3s_below (below_via HVb.out HB1.out) (Nat.le_succ _) _ _ _⟩
end Go.Proofs.YtldaoepemofhlaaGreatDoor
namespace Go.Proofs.YtldaoepemofhlaaGreatDoor
open Go Go.RowKit
set_option maxRecDepth 100000
theorem rat_c (A : Option Addr) (n c : Nat) (xs : List Val) (i : Int) (w : World) (hn : xs.length = n) (hs : Sl w A xs) :
 Calls Tryz.prog 18 #[.slice A n c, .int .i64 i] w fun e w' => e = .returned (atR xs i).v ∧ Below w.heap.size w w' := by
 by_cases h0 : i < 0
 · have e0 : atR xs i = nl := by unfold atR; rw [if_neg (by omega)]
   rw [e0]
   go_enter Tryz.func18, Tryz.ntmps18
   go_wp2
   exact ret_val (a := nl) Tryz.results18 rfl (Bx.new w nl) rfl ⟨rfl, below_one _ _⟩
 · obtain ⟨j, rfl⟩ : ∃ j : Nat, i = j := ⟨i.toNat, by omega⟩
   by_cases h1 : j < n
   · obtain ⟨b, off, x, rfl, hlt, hx, d0, d1, d2⟩ := hs.at3 (k := j) (by omega)
     have e0 : atR xs (j : Int) = x := by unfold atR; rw [if_pos (by omega), Int.toNat_natCast, hx]; rfl
     rw [e0]
     clear e0 hx hs hn
     have h2 : (j : Int) < n := by omega
     go_enter Tryz.func18, Tryz.ntmps18
     go_wp2
     exact ret_val (a := x) Tryz.results18 rfl (Bx.new w x) rfl ⟨rfl, below_one _ _⟩
   · have e0 : atR xs (j : Int) = nl := by unfold atR; rw [if_pos (by omega), Int.toNat_natCast, List.getElem?_eq_none (by omega)]; rfl
     rw [e0]
     clear e0 hs hn
     have h2 : (n : Int) ≤ j := by omega
     go_enter Tryz.func18, Tryz.ntmps18
     go_wp2
     exact ret_val (a := nl) Tryz.results18 rfl (Bx.new w nl) rfl ⟨rfl, below_one _ _⟩
theorem all_dropQ {α : Type} (p : α → Bool) (b : List α) (k : Nat) (x : α) (h : b[k]? = some x) : (b.drop k).all p = (p x && (b.drop (k + 1)).all p) := by
 have h1 := List.drop_eq_getElem_cons (List.getElem?_eq_some_iff.1 h).1
 rw [(List.getElem?_eq_some_iff.1 h).2] at h1
 rw [h1, List.all_cons]
def lowG (b : Bg) : Bool := b.all fun x => !(decide (1000 < x.2) || decide (x.2 < -1000))
def lowQ (b : Bg) : Bool := lowG b && smallB b
theorem lowG_drop (b : Bg) (k : Nat) (x : List Val × Int) (h : b[k]? = some x) : lowG (b.drop k) = (!(decide (1000 < x.2) || decide (x.2 < -1000)) && lowG (b.drop (k + 1))) := all_dropQ _ b k x h
set_option maxHeartbeats 4000000 in
theorem rlow_c (A : Option Addr) (n c : Nat) (cs : List Ct) (w : World) (hB : BgIn w A n cs) :
 Calls Tryz.prog 20 #[.slice A n c] w fun e w' => e = .returned (.bool (lowQ (pl cs))) ∧ Below w.heap.size w w' := by
 obtain ⟨T, hT⟩ : ∃ T, lowQ (pl cs) = T := ⟨_, rfl⟩
 rw [hT]
 obtain ⟨R, hR⟩ : ∃ R, lowG (pl cs) = R := ⟨_, rfl⟩
 have HR := Lib.hid hR
 have HT : Hid ((R && smallB (pl cs)) = T) := Lib.hid (by rw [← hR, ← hT]; rfl)
 have HB := Lib.hid hB
 have hmx : n ≤ 9223372036854775807 := hB.max
 clear hB hR hT
 go_enter Tryz.func20, Tryz.ntmps20
 go_wp2_with fail
 go_loopw [3] (fun i wr => ∃ k : Nat, k ≤ n ∧ i = .int .i64 k ∧ Hid (Below w.heap.size w wr) ∧ Hid (lowG ((pl cs).drop k) = R)) (fun i _ => n - (intOf i).toNat)
 case atStart => exact ⟨0, Nat.zero_le _, rfl, Lib.hid (Below.refl _ _), HR⟩
 case round =>
  obtain ⟨k, hk, rfl, hb, hinv⟩ := hrel
  clear HR
  by_cases hlt : k < n
  · obtain ⟨b, off, rfl⟩ := HB.out.sl.some2 (k := k) (by rw [HB.out.len]; exact hlt)
    obtain ⟨x, hx⟩ : ∃ x, cs[k]? = some x := ⟨_, List.getElem?_eq_getElem (by rw [HB.out.len]; exact hlt)⟩
    obtain ⟨hblt, c0, c1⟩ := HB.out.sl.cell2 hx
    have d1 := (hb.out.cell (p := ⟨b, off + k * 2 + 1, none⟩) hblt).trans c1
    have l0 : b < wr.heap.size := Nat.lt_of_lt_of_le hblt hb.out.size
    have Hst := Lib.hid ((lowG_drop (pl cs) k _ (pl_at hx)).symm.trans hinv.out)
    clear hinv c0 c1 hx hblt
    obtain ⟨⟨xA, xn, xc, xs⟩, N⟩ := x
    simp only [] at d1
    have hgo : (k : Int) < n := by omega
    cases h1 : decide (1000 < N)
    · cases h2 : decide (N < -1000)
      · have Hst2 : Hid (lowG ((pl cs).drop (k + 1)) = R) := by
         have := Hst.out
         simp only [h1, h2, Bool.or_false, Bool.not_false, Bool.true_and] at this
         exact Lib.hid this
        clear Hst
        go_wp2
        go_roundw
        case rel => exact ⟨k + 1, by omega, by go_num, hb, Hst2⟩
        case measure => simp [intOf]; omega
      · obtain rfl : R = false := by
         have := Hst.out
         simp only [h1, h2, Bool.or_true, Bool.not_true, Bool.false_and] at this
         exact this.symm
        clear Hst
        go_wp2
        go_ret
        exact ⟨congrArg (fun z => Ending.returned (Value.bool z)) HT.out, hb.out⟩
    · obtain rfl : R = false := by
       have := Hst.out
       simp only [h1, Bool.true_or, Bool.not_true, Bool.false_and] at this
       exact this.symm
      clear Hst
      go_wp2
      go_ret
      exact ⟨congrArg (fun z => Ending.returned (Value.bool z)) HT.out, hb.out⟩
  · obtain rfl : k = n := by omega
    obtain rfl : R = true := by
     have := hinv.out
     rw [show (pl cs).drop k = [] from List.drop_eq_nil_of_le (by rw [pl_len, HB.out.len]; exact Nat.le_refl _)] at this
     exact this.symm
    clear hinv
    have HS := Lib.hid (smallB_c A k c cs wr (HB.out.after hb.out))
    go_wp2_with fail
    refine HS.out.mono ?_
    rintro e w1 ⟨rfl, hb1⟩
    have Hb1 := Lib.hid (below_via hb.out hb1)
    clear hb1 hb HS
    have HT2 : Hid (smallB (pl cs) = T) := Lib.hid (by rw [← HT.out]; rfl)
    go_wp2
    go_ret
    exact ⟨congrArg (fun z => Ending.returned (Value.bool z)) HT2.out, Hb1.out⟩
end Go.Proofs.YtldaoepemofhlaaGreatDoor
namespace Go.Proofs.YtldaoepemofhlaaGreatDoor
open Go
theorem ones_fold : ∀ (L a : Bg), (ones L).foldl bothB a = bothB a L
 | [], _ => rfl
 | x :: L, a => by
   show (ones L).foldl bothB (bothB a [x]) = bothB (addB a x.1 x.2) L
   rw [ones_fold L]
   rfl
theorem ones_plus (L : Bg) : plusL (ones L) = bothB [] L := ones_fold L []
theorem low_may {L : Bg} (h : Bd 1000 L) (hr : ∀ x ∈ L, mayR x.1 = true) (hl : L.length ≤ 10000) : mayBag (bothB [] L) = true := by
 have ha : Asc (bothB [] L) := asc_both _ _ List.Pairwise.nil
 refine may_of ha fun x hx => ?_
 have h1 : x.2 ≠ 0 := nz_both L [] (fun y hy => by cases hy) x hx
 have h2 := look_mem _ x ha hx
 rw [look_both _ _ _ List.Pairwise.nil] at h2
 have h3 : lookB [] x.1 = 0 := rfl
 have h4 := sum_bd 1000 (by decide) L x.1 h
 have h5 := key_both (fun r => mayR r = true) L [] (fun y hy => by cases hy) hr x hx
 have h6 : (L.length : Int) * 1000 ≤ 10000000 := by omega
 exact okC_of h1 (by omega) (by omega) h5
theorem low_plus {L : Bg} (h : Bd 1000 L) (hr : ∀ x ∈ L, mayR x.1 = true ∧ x.2 ≠ 0) (hl : L.length ≤ 10000) : plusR (ones L) = bothB [] L := by
 unfold plusR
 rw [ones_plus, low_may h (fun x hx => (hr x hx).1) hl, all_ones]
 have h2 : L.all okC = true := List.all_eq_true.2 fun x hx => okC_of (hr x hx).2 (by have := h x hx; omega) (by have := h x hx; omega) (hr x hx).1
 rw [h2]
 rfl
theorem lowG_bd {b : Bg} (h : lowQ b = true) : Bd 1000 b ∧ b.length ≤ 60 := by
 unfold lowQ lowG smallB at h
 rw [Bool.and_eq_true, Bool.and_eq_true, List.all_eq_true, decide_eq_true_eq] at h
 refine ⟨fun x hx => ?_, h.2.2⟩
 have := h.1 x hx
 simp only [Bool.not_eq_true', Bool.or_eq_false_iff, decide_eq_false_iff_not] at this
 omega
theorem pick_mayR {ps : List Int} {r q : List Val} (h : pickR r ps = some q) (hp : ps.length ≤ 40) (hr : mayR r = true) : mayR q = true := by
 unfold mayR at hr ⊢
 rw [Bool.and_eq_true, decide_eq_true_eq, List.all_eq_true] at hr
 rw [Bool.and_eq_true, decide_eq_true_eq, List.all_eq_true]
 exact ⟨by rw [pick_len ps r q h]; exact hp, fun v hv => hr.2 v (pick_mem h v hv)⟩
theorem pickL_mem {ps : List Int} {b : Bg} {y : List Val × Int} (h : y ∈ pickL ps b) : ∃ x ∈ b, pickR x.1 ps = some y.1 ∧ y.2 = x.2 := by
 unfold pickL at h
 rw [List.mem_filterMap] at h
 obtain ⟨x, hx, h⟩ := h
 cases hp : pickR x.1 ps with
 | none => rw [hp] at h; cases h
 | some q =>
   rw [hp] at h
   cases h
   exact ⟨x, hx, hp, rfl⟩
theorem pickP_low {ps : List Int} {b : Bg} (hm : mayBag b = true) (hp : ps.length ≤ 40) (hb : Bd 1000 b) (hl : b.length ≤ 10000) : pickP ps b = bothB [] (pickL ps b) ∧ mayBag (bothB [] (pickL ps b)) = true := by
 have h1 : Bd 1000 (pickL ps b) := fun y hy => by
  obtain ⟨x, hx, _, e⟩ := pickL_mem hy
  rw [e]
  exact hb x hx
 have h2 : ∀ y ∈ pickL ps b, mayR y.1 = true ∧ y.2 ≠ 0 := fun y hy => by
  obtain ⟨x, hx, hq, e⟩ := pickL_mem hy
  obtain ⟨k1, _, _, k2⟩ := okC_parts (may_okC hm x hx)
  exact ⟨pick_mayR hq hp k2, by rw [e]; exact k1⟩
 have h3 : (pickL ps b).length ≤ 10000 := Nat.le_trans (pickL_len ps b) hl
 refine ⟨?_, low_may h1 (fun y hy => (h2 y hy).1) h3⟩
 unfold pickP
 rw [hm, decide_eq_true hp]
 exact low_plus h1 h2 h3
def tot (b : Bg) : Int := wt (fun _ => 1) b
theorem tot_cons (x : List Val × Int) (b : Bg) : tot (x :: b) = x.2 + tot b := by
 unfold tot
 rw [wt, Int.one_mul]
theorem tot_take {b : Bg} {k : Nat} {x : List Val × Int} (h : b[k]? = some x) : tot (b.take (k + 1)) = tot (b.take k) + x.2 := by
 rw [List.take_add_one, h]
 unfold tot
 rw [wt_app]
 show _ + (1 * x.2 + 0) = _
 omega
theorem tot_bd (P : Int) (hP : 0 ≤ P) : ∀ b : Bg, Bd P b → -(b.length * P) ≤ tot b ∧ tot b ≤ b.length * P
 | [], _ => by
   show -((0 : Int) * P) ≤ 0 ∧ 0 ≤ (0 : Int) * P
   simp
 | x :: b, h => by
   have h1 := tot_bd P hP b (fun y hy => h y (List.mem_cons_of_mem _ hy))
   have h2 := h x (by simp)
   rw [tot_cons, List.length_cons]
   have e : ((b.length + 1 : Nat) : Int) * P = b.length * P + P := by
    rw [Int.natCast_add, Int.add_mul, Int.natCast_one, Int.one_mul]
   rw [e]
   omega
theorem tot_both (L : Bg) : tot (bothB [] L) = tot L := by
 unfold tot
 rw [wt_both, wt, Int.zero_add]
theorem pick_two {ps : List Int} {r : List Val} (hr : r.length = 2) : (pickR r ps).isSome = ps.all fun p => p == 0 || p == 1 := by
 induction ps with
 | nil => rfl
 | cons p ps ih =>
   rw [pickR, hr, List.all_cons, ← ih]
   by_cases h0 : p = 0
   · subst h0
     rw [if_pos (by decide), List.getElem?_eq_getElem (by rw [hr]; decide)]
     cases pickR r ps <;> simp
   · by_cases h1 : p = 1
     · subst h1
       rw [if_pos (by decide), List.getElem?_eq_getElem (by rw [hr]; decide)]
       cases pickR r ps <;> simp
     · rw [if_neg (by omega)]
       simp [h0, h1]
theorem pickL_bad {ps : List Int} {b : Bg} (hr : ∀ x ∈ b, x.1.length = 2) (h : (ps.all fun p => p == 0 || p == 1) = false) : pickL ps b = [] := by
 refine List.eq_nil_iff_forall_not_mem.2 fun y hy => ?_
 obtain ⟨x, hx, hq, _⟩ := pickL_mem hy
 have := pick_two (ps := ps) (hr x hx)
 rw [hq, h] at this
 cases this
theorem pickL_tot {ps : List Int} : ∀ {b : Bg}, (∀ x ∈ b, x.1.length = 2) → (ps.all fun p => p == 0 || p == 1) = true → tot (pickL ps b) = tot b
 | [], _, _ => rfl
 | x :: b, hr, h => by
   have h1 := pick_two (ps := ps) (hr x (by simp))
   rw [h] at h1
   obtain ⟨q, hq⟩ := Option.isSome_iff_exists.1 h1
   have e : pickL ps (x :: b) = (q, x.2) :: pickL ps b := by
    unfold pickL
    rw [List.filterMap_cons, hq]
    rfl
   rw [e, tot_cons, tot_cons, pickL_tot (fun y hy => hr y (List.mem_cons_of_mem _ hy)) h]
theorem pick_01 {r : List Val} (hr : r.length = 2) : pickR r [0, 1] = some r := by
 match r, hr with
 | [a, b], _ => rfl
theorem pickL_01 : ∀ {b : Bg}, (∀ x ∈ b, x.1.length = 2) → pickL [0, 1] b = b
 | [], _ => rfl
 | x :: b, hr => by
   have h1 := pick_01 (hr x (by simp))
   have e : pickL [0, 1] (x :: b) = (x.1, x.2) :: pickL [0, 1] b := by
    unfold pickL
    rw [List.filterMap_cons, h1]
    rfl
   rw [e, pickL_01 fun y hy => hr y (List.mem_cons_of_mem _ hy)]
theorem picks_bad {ps : List Int} {b : Bg} (hr : ∀ x ∈ b, x.1.length = 2) (h : (ps.all fun p => p == 0 || p == 1) = false) : pickP ps b = [] := by
 unfold pickP
 rw [pickL_bad hr h]
 split <;> rfl
theorem picks_tot {ps : List Int} {b : Bg} (hm : mayBag b = true) (hp : ps.length ≤ 40) (hb : Bd 1000 b) (hl : b.length ≤ 60) (hr : ∀ x ∈ b, x.1.length = 2) (h : (ps.all fun p => p == 0 || p == 1) = true) : tot (pickP ps b) = tot b := by
 rw [(pickP_low hm hp hb (by omega)).1, tot_both, pickL_tot hr h]
theorem picks_01 {b : Bg} (hm : mayBag b = true) (hb : Bd 1000 b) (hl : b.length ≤ 60) (hr : ∀ x ∈ b, x.1.length = 2) : pickP [0, 1] b = b := by
 rw [(pickP_low hm (by decide) hb (by omega)).1, pickL_01 hr]
 exact both_nil (may_asc hm) (may_nz hm)
theorem len_add1 : ∀ (b : Bg) (r : List Val) (n : Int), (addB b r n).length ≤ b.length + 1
 | [], r, n => by rw [addB]; split <;> simp
 | x :: b, r, n => by
   have := len_add1 b r n
   rw [addB]
   repeat' split
   all_goals simp only [List.length_cons]
   all_goals omega
theorem len_both1 : ∀ (b a : Bg), (bothB a b).length ≤ a.length + b.length
 | [], a => Nat.le_refl _
 | x :: b, a => by
   have h1 := len_both1 b (addB a x.1 x.2)
   have h2 := len_add1 a x.1 x.2
   rw [both_cons, List.length_cons]
   omega
theorem picks_len {ps : List Int} {b : Bg} (hl : b.length ≤ 60) : (pickP ps b).length ≤ 60 := by
 unfold pickP
 split
 · unfold plusR
   split
   · rw [ones_plus]
     have h1 := len_both1 (pickL ps b) []
     have h2 := pickL_len ps b
     simp only [List.length_nil] at h1
     omega
   · exact Nat.zero_le _
 · exact Nat.zero_le _
end Go.Proofs.YtldaoepemofhlaaGreatDoor
namespace Go.Proofs.YtldaoepemofhlaaGreatDoor
open Go Go.RowKit
set_option maxRecDepth 100000
def Okv (v : Val) : Prop := v.s.size ≤ maxLen ∧ (-9223372036854775808 ≤ v.n ∧ v.n ≤ 9223372036854775807)
theorem okv_nl : Okv nl := ⟨by decide, by decide, by decide⟩
theorem okv_at {xs : List Val} (h : ∀ v ∈ xs, Okv v) (i : Int) : Okv (atR xs i) := by
 unfold atR
 split
 · cases h1 : xs[i.toNat]? with
   | none => exact okv_nl
   | some x => exact h x (List.mem_of_getElem? h1)
 · exact okv_nl
theorem okv_ext {t i : Int} : ∀ (b : Bg) (z : Val), (∀ x ∈ b, ∀ v ∈ x.1, Okv v) → Okv z → Okv (b.foldl (fun z x => extV t z (atR x.1 i)) z)
 | [], _, _, hz => hz
 | x :: b, z, h, hz => by
   refine okv_ext b _ (fun y hy => h y (List.mem_cons_of_mem _ hy)) ?_
   show Okv (extV t z (atR x.1 i))
   unfold extV
   split
   · exact hz
   · split
     · exact okv_at (h x (by simp)) i
     · exact hz
theorem okv_agg {b : Bg} (hG : GOk b) (h : ∀ x ∈ b, ∀ v ∈ x.1, Okv v) (fn i : Int) : Okv (aggR fn i b).1 := by
 unfold aggR
 split
 · have h1 := cntB_nonneg hG.1
   have h2 := hG.2
   exact ⟨by show (0 : Nat) ≤ _; exact Nat.zero_le _, by show _ ≤ cntB b; omega, by show cntB b ≤ _; omega⟩
 · split
   · split
     · split
       · next hf => exact ⟨by show (0 : Nat) ≤ _; exact Nat.zero_le _, hf⟩
       · exact okv_nl
     · exact okv_nl
   · split
     · exact okv_ext b nl h okv_nl
     · split
       · exact okv_ext b nl h okv_nl
       · exact okv_nl
theorem cntB_filter (p : List Val × Int → Bool) : ∀ {b : Bg}, (∀ x ∈ b, 0 ≤ x.2) → cntB (b.filter p) ≤ cntB b
 | [], _ => Int.le_refl _
 | x :: b, h => by
   have h1 := cntB_filter p (b := b) fun y hy => h y (List.mem_cons_of_mem _ hy)
   have h2 := h x (by simp)
   cases hp : p x
   · rw [List.filter_cons_of_neg (by rw [hp]; exact Bool.false_ne_true), cntB]; omega
   · rw [List.filter_cons_of_pos hp, cntB, cntB]; omega
theorem GOk.filter {b : Bg} (h : GOk b) (p : List Val × Int → Bool) : GOk (b.filter p) := ⟨fun x hx => h.1 x (List.mem_filter.1 hx).1, Int.le_trans (cntB_filter p h.1) h.2⟩
theorem key_inB {ps : List Int} {cs : List Ct} {k : List Val} (hv : ∀ x ∈ pl cs, ∀ v ∈ x.1, Valid v) (hk : ∀ v ∈ k, Valid v) : pl (keyF ps cs ⟨(rowT k).toArray⟩) = inB ps k (pl cs) := by
 unfold keyF inB stayB pl
 rw [List.filter_map]
 congr 1
 refine List.filter_congr fun c hc => ?_
 have hvc := hv (c.h.xs, c.N) (List.mem_map.2 ⟨c, hc, rfl⟩)
 show (match keyT ps c.h.xs with | some y => (⟨(rowT k).toArray⟩ : ByteArray) == y | none => false) = decide (pickR c.h.xs ps = some k)
 unfold keyT
 cases hp : pickR c.h.xs ps with
 | none => rfl
 | some q =>
   show ((⟨(rowT k).toArray⟩ : ByteArray) == ⟨(rowT q).toArray⟩) = decide (some q = some k)
   by_cases h : q = k
   · subst h
     rw [eqS_self, decide_eq_true rfl]
   · have h2 : ¬ ((⟨(rowT k).toArray⟩ : ByteArray) = ⟨(rowT q).toArray⟩) := fun e => by
      injection e with e
      have e2 : rowT k = rowT q := by simpa using congrArg Array.toList e
      exact h (rowT_inj hk (fun v hv2 => hvc v (pick_mem hp v hv2)) e2).symm
     rw [decide_eq_false (fun e => h (Option.some.inj e))]
     cases h3 : (⟨(rowT k).toArray⟩ : ByteArray) == ⟨(rowT q).toArray⟩
     · rfl
     · exact absurd (eqS_iff.1 h3) h2
theorem pickP_len (ps : List Int) (b : Bg) : (pickP ps b).length ≤ b.length := by
 unfold pickP
 split
 · unfold plusR
   split
   · rw [ones_plus]
     have h1 := len_both1 (pickL ps b) []
     have h2 := pickL_len ps b
     simp only [List.length_nil] at h1
     omega
   · exact Nat.zero_le _
 · exact Nat.zero_le _
theorem pickP_may (ps : List Int) (b : Bg) : mayBag (pickP ps b) = true := by
 unfold pickP
 split
 · unfold plusR
   split
   · next h => exact (Bool.and_eq_true _ _ ▸ h).2
   · rfl
 · rfl
theorem valid_sz {x : Val} (h : Valid x) : x.s.size ≤ 1000 := may_sz ((may_iff x).2 h)
def errG (ps : List Int) (ags : List (Int × Int)) (b : Bg) : Bg → Int
 | [] => 0
 | x :: l => if aggsE (inB ps x.1 b) ags = 0 then errG ps ags b l else aggsE (inB ps x.1 b) ags
def valG (ps : List Int) (ags : List (Int × Int)) (b : Bg) (l : Bg) : Bg := l.map fun x => (x.1 ++ aggsV (inB ps x.1 b) ags, 1)
theorem errG_drop {ps : List Int} {ags : List (Int × Int)} {b l : Bg} {k : Nat} {x : List Val × Int} (hx : l[k]? = some x) : errG ps ags b (l.drop k) = if aggsE (inB ps x.1 b) ags = 0 then errG ps ags b (l.drop (k + 1)) else aggsE (inB ps x.1 b) ags := by
 have hk := (List.getElem?_eq_some_iff.1 hx).1
 have he : l[k] = x := (List.getElem?_eq_some_iff.1 hx).2
 rw [List.drop_eq_getElem_cons hk, he, errG]
theorem valG_take {ps : List Int} {ags : List (Int × Int)} {b l : Bg} {k : Nat} {x : List Val × Int} (hx : l[k]? = some x) : valG ps ags b (l.take (k + 1)) = valG ps ags b (l.take k) ++ [(x.1 ++ aggsV (inB ps x.1 b) ags, 1)] := by
 unfold valG
 rw [List.take_add_one, hx, List.map_append]
 rfl
def rowsF (ps : List Int) (grp : Bool) (ags : List (Int × Int)) (b : Bg) : Bg × Int :=
 if refR b = 0 then
  if grp = false ∨ pickP ps b = [] then (pickP ps b, 0)
  else if 40 < ps.length + ags.length then ([], 100)
  else if errG ps ags b (pickP ps b) = 0 then (valG ps ags b (pickP ps b), 0) else ([], errG ps ags b (pickP ps b))
 else ([], refR b)
theorem Bq.allG {w : World} {b : Nat} {x : Vq} (h : Bq w b x) : w.cell? ⟨b, 0, none⟩ = some (.string x.name) ∧ w.cell? ⟨b, 1, none⟩ = some (.string x.frm) ∧ w.cell? ⟨b, 2, none⟩ = some (.string x.wth) ∧ w.cell? ⟨b, 3, none⟩ = some (.int .i64 x.on0) ∧ w.cell? ⟨b, 4, none⟩ = some (.int .i64 x.on1) ∧
 w.cell? ⟨b, 5, none⟩ = some (.slice x.eA x.en x.ec) ∧ w.cell? ⟨b, 6, none⟩ = some (.slice x.pA x.pn x.pc) ∧ w.cell? ⟨b, 7, none⟩ = some (.bool x.grp) ∧ w.cell? ⟨b, 8, none⟩ = some (.slice x.aA x.an x.ac) := by
 unfold Bq at h
 refine ⟨?_, ?_, ?_, ?_, ?_, ?_, ?_, ?_, ?_⟩ <;> simp [World.cell?, h, Vq.cells]
structure GrpSaid (w : World) (A : Option Addr) (n : Nat) (os : List Ct) (er : Int) (r : Bg × Int) (w' : World) : Prop where
 below : Below w.heap.size w w'
 bag : BgIn w' A n os
 er2 : er = r.2
 said : pl os = r.1
attribute [local go_sem ↓] Go.wp_at_zero Go.wp_at_succ
set_option maxHeartbeats 4000000 in
theorem rowsG_c (x : Vq) (ags : List (Int × Int)) (A : Option Addr) (n c : Nat) (cs : List Ct) (w : World) (hx : Vq.In w x) (hL : SlG w x.aA 2 rdA ags) (hLn : ags.length = x.an) (hLm : x.an ≤ 140737488355328 ∨ n = 0) (hA : BgIn w A n cs) (hn : n ≤ 10000) (hG : Gl w) :
 Calls Tryz.prog 10 #[x.w, .slice A n c] w fun e w' => ∃ A' n' c' os er, e = .returned (.tuple #[.slice A' n' c', .int .i64 er]) ∧ GrpSaid w A' n' os er (rowsF x.ps x.grp ags (pl cs)) w' := by
 have HQ : Hid (Bq (w.alloc (.cells x.cells 28)) w.heap.size x) := Lib.hid (Bq.new w x)
 have HX := Lib.hid hx
 have HA := Lib.hid hA
 have HL := Lib.hid hL
 have HLn := Lib.hid hLn
 have HGl := Lib.hid hG
 clear hA hx hL hLn hG
 obtain ⟨nm, fr, wt, o0, o1, eA, en, ec, ee, pA, pn, pc, ps, gr, aA, an, ac⟩ := x
 have Hb0 : Hid (Below w.heap.size w (w.alloc (.cells #[.string nm, .string fr, .string wt, .int .i64 o0, .int .i64 o1, .slice eA en ec, .slice pA pn pc, .bool gr, .slice aA an ac] 28))) := Lib.hid (below_one _ _)
 have Hl0 : Hid (w.heap.size < (w.alloc (.cells #[.string nm, .string fr, .string wt, .int .i64 o0, .int .i64 o1, .slice eA en ec, .slice pA pn pc, .bool gr, .slice aA an ac] 28)).heap.size) := Lib.hid (by simp)
 have HQ1 : Hid (Bq (w.alloc (.cells #[.string nm, .string fr, .string wt, .int .i64 o0, .int .i64 o1, .slice eA en ec, .slice pA pn pc, .bool gr, .slice aA an ac] 28)) w.heap.size ⟨nm, fr, wt, o0, o1, eA, en, ec, ee, pA, pn, pc, ps, gr, aA, an, ac⟩) := HQ
 clear HQ
 dsimp only [Vq.w]
 have Hpl := Lib.hid HX.out.plen
 have hpm := HX.out.pmax
 try simp only at hpm hLm
 have HLm := Lib.hid hLm
 clear hLm
 unfold maxLen at hpm
 obtain ⟨R, hR⟩ : ∃ R, rowsF ps gr ags (pl cs) = R := ⟨_, rfl⟩
 have HR := Lib.hid hR
 rw [hR]
 clear hR
 go_enter Tryz.func10, Tryz.ntmps10
 go_wp2_with fail
 refine (refusal_c A n c cs _ (HA.out.after Hb0.out) (by omega)).mono ?_
 rintro e W ⟨rfl, hb1⟩
 have HbW := Lib.hid (below_via Hb0.out hb1)
 have HQ2 := HQ1.out.below hb1 Hl0.out
 have hlW := Nat.lt_of_lt_of_le Hl0.out hb1.size
 have HQW := Lib.hid HQ2
 have HlW := Lib.hid hlW
 obtain ⟨r, hr⟩ : ∃ r, refR (pl cs) = r := ⟨_, rfl⟩
 have Hr := Lib.hid hr
 rw [hr]
 clear hb1 Hb0 HQ1 Hl0 HQ2 hr
 by_cases h0 : r = 0
 · have hr1 : (r != 0) = false := by simp [h0]
   have H0 : Hid (refR (pl cs) = 0) := Lib.hid (by rw [Hr.out]; exact h0)
   obtain ⟨q0, q1, q2, q3, q4, q5, q6, q7, q8⟩ := HQW.out.allG
   try simp only at q0 q1 q2 q3 q4 q5 q6 q7 q8
   clear h0
   go_wp2_with fail
   refine (qpick_c (⟨nm, fr, wt, o0, o1, eA, en, ec, ee, pA, pn, pc, ps, gr, aA, an, ac⟩ : Vq) A n c cs W (HX.out.after HbW.out) (HA.out.after HbW.out) hn).mono ?_
   rintro e W2 ⟨A2, n2, c2, os, rfl, hb2, hB2, hp2⟩
   have HB2 := Lib.hid hB2
   have Hp2 : Hid (pl os = pickP ps (pl cs)) := Lib.hid hp2
   have hn3 : n2 ≤ n := by
    have h1 : (pl os).length ≤ (pl cs).length := by rw [Hp2.out]; exact pickP_len _ _
    rw [pl_len, pl_len, HB2.out.len, HA.out.len] at h1
    exact h1
   have hn2 : n2 ≤ 10000 := by omega
   have HbW2 := Lib.hid (below_via HbW.out hb2)
   have HQ3 := Lib.hid (HQW.out.below hb2 HlW.out)
   have Hl2 := Lib.hid (Nat.lt_of_lt_of_le HlW.out hb2.size)
   clear q0 q1 q2 q3 q4 q5 q6 q7 q8 hp2 hB2 hb2 hlW
   obtain ⟨q0, q1, q2, q3, q4, q5, q6, q7, q8⟩ := HQ3.out.allG
   try simp only at q0 q1 q2 q3 q4 q5 q6 q7 q8
   have lq := Hl2.out
   cases gr
   · have HF : Hid (GrpSaid w A2 n2 os 0 R W2) := Lib.hid (by
      have : R = (pickP ps (pl cs), 0) := by rw [← HR.out]; unfold rowsF; rw [if_pos H0.out, if_pos (.inl rfl)]
      subst this
      exact ⟨HbW2.out, HB2.out, rfl, Hp2.out⟩)
     go_wp2_with fail
     go_ret2
     exact ⟨_, _, _, _, _, rfl, HF.out⟩
   · by_cases hn0 : n2 = 0
     · subst hn0
       have HF : Hid (GrpSaid w A2 0 os 0 R W2) := Lib.hid (by
        have h1 : os = [] := List.length_eq_zero_iff.1 HB2.out.len
        have h2 : pickP ps (pl cs) = [] := by rw [← Hp2.out, h1]; rfl
        have : R = (pickP ps (pl cs), 0) := by rw [← HR.out]; unfold rowsF; rw [if_pos H0.out, if_pos (.inr h2)]
        subst this
        exact ⟨HbW2.out, HB2.out, rfl, Hp2.out⟩)
       go_wp2_with fail
       go_ret2
       exact ⟨_, _, _, _, _, rfl, HF.out⟩
     · have hn1 : ((n2 : Int) == 0) = false := by simp; omega
       have HN0 : Hid (¬ (true = false ∨ pickP ps (pl cs) = [])) := Lib.hid (by
        rintro (h | h)
        · cases h
        · rw [← Hp2.out] at h
          have := congrArg List.length h
          rw [pl_len, HB2.out.len] at this
          exact hn0 this)
       have hpn : pn ≤ 40 := by
        have h1 : ps.length = pn := Hpl.out
        rcases Nat.lt_or_ge 40 pn with h | h
        · exact absurd (.inr (by unfold pickP; rw [decide_eq_false (by omega), Bool.and_false]; rfl)) HN0.out
        · exact h
       have hLm : an ≤ 140737488355328 := by
        rcases HLm.out with h | h
        · exact h
        · omega
       have hw1 : IntKind.i64.wrap ((pn : Int) + an) = pn + an := by rw [IntKind.wrap_i64]; omega
       clear hn0
       by_cases h40 : 40 < pn + an
       · have h41 : (40 : Int) < (pn : Int) + an := by omega
         have HF : Hid (GrpSaid w none 0 [] 100 R W2) := Lib.hid (by
          have h1 : ps.length = pn := Hpl.out
          have h2 : ags.length = an := HLn.out
          have : R = ([], 100) := by rw [← HR.out]; unfold rowsF; rw [if_pos H0.out, if_neg HN0.out, if_pos (by omega)]
          subst this
          exact ⟨HbW2.out, bgIn_nil _, rfl, rfl⟩)
         go_wp2_with fail
         go_ret2
         exact ⟨_, _, _, _, _, rfl, HF.out⟩
       · have h41 : (pn : Int) + an ≤ 40 := by omega
         have han : an ≤ 40 := by omega
         have Hmay := Lib.hid (refR_ok H0.out)
         go_wp2_with fail
         refine (byPick_c pA A pn pc n c ps cs W2 (HA.out.after HbW2.out) Hmay.out.1 hn Hpl.out hpn (HX.out.after HbW2.out).psl (HGl.out.after HbW2.out)).mono ?_
         rintro e W3 ⟨mb, l, rfl, hS⟩
         have HS := Lib.hid hS
         have HbW3 := Lib.hid (below_via HbW2.out hS.below)
         have HQ4 := Lib.hid (HQ3.out.below hS.below Hl2.out)
         have Hl4 := Lib.hid (Nat.lt_of_lt_of_le Hl2.out hS.below.size)
         have HB4 := Lib.hid (HB2.out.after hS.below)
         have HG4 := Lib.hid hS.grp
         obtain ⟨B0, hB0⟩ : ∃ B0, W2.heap.size + 1 = B0 := ⟨_, rfl⟩
         rw [hB0] at HG4
         have HpG : Hid (∀ y ∈ pl os, ∀ v ∈ y.1, Valid v) := Lib.hid (by
          intro y hy v hv
          have hmb : mayBag (pl os) = true := by rw [Hp2.out]; exact pickP_may _ _
          exact valid_of_may v ((may_row hmb hy).2.1 v hv))
         have HvG : Hid (∀ y ∈ pl cs, ∀ v ∈ y.1, Valid v) := Lib.hid (fun y hy v hv => valid_of_may v ((may_row Hmay.out.1 hy).2.1 v hv))
         clear hS hB0 q0 q1 q2 q3 q4 q5 q6 q7 q8 lq HQW HlW HQ3 Hl2
         go_wp2_with fail
         go_loopw [9, 45] (fun v q wr => ∃ (k m : Nat) (A' : Option Addr) (c' : Nat) (ol : List Ct), k ≤ n2 ∧ m = k ∧ q = .int .i64 k ∧ v = .slice A' m c' ∧ Hid (ol.length = m) ∧ Hid (Below W3.heap.size W3 wr) ∧ Hid (OwnG wr W3.heap.size 49 2 rdC (.slice A' m c') ol) ∧ Hid (ApartC wr A' ol) ∧ Hid (pl ol = valG ps ags (pl cs) ((pl os).take k)) ∧ Hid (errG ps ags (pl cs) (pl os) = errG ps ags (pl cs) ((pl os).drop k))) (fun _ q _ => n2 - (intOf q).toNat)
         case atStart => exact ⟨0, 0, none, 0, [], Nat.zero_le _, rfl, rfl, rfl, Lib.hid rfl, Lib.hid (Below.refl _ _), Lib.hid (OwnG.nil _ _ _), Lib.hid (ApartC.nil _ _), Lib.hid rfl, Lib.hid rfl⟩
         case round =>
          obtain ⟨k, m, A', c', ol, hk, rfl, rfl, rfl, hol, hb, ho, hap, hst, her⟩ := hrel
          by_cases hlt : m < n2
          · obtain ⟨b, off, rfl⟩ := HB4.out.sl.some2 (k := m) (by rw [HB4.out.len]; exact hlt)
            obtain ⟨x, hx⟩ : ∃ x, os[m]? = some x := ⟨_, List.getElem?_eq_getElem (by rw [HB4.out.len]; exact hlt)⟩
            obtain ⟨hblt, c0, c1⟩ := HB4.out.sl.cell2 hx
            have d0 := (hb.out.cell (p := ⟨b, off + m * 2, none⟩) hblt).trans c0
            have d1 := (hb.out.cell (p := ⟨b, off + m * 2 + 1, none⟩) hblt).trans c1
            have l0 : b < wr.heap.size := Nat.lt_of_lt_of_le hblt hb.out.size
            obtain ⟨p0, p1, p2, p3, p4, p5, p6, p7, p8⟩ := (HQ4.out.below hb.out Hl4.out).allG
            have lq : w.heap.size < wr.heap.size := Nat.lt_of_lt_of_le Hl4.out hb.out.size
            try simp only at p0 p1 p2 p3 p4 p5 p6 p7 p8
            have Hxr := Lib.hid ((HB4.out.each x (List.mem_of_getElem? hx)).after hb.out)
            have Hxv := Lib.hid (HpG.out _ (pl_mem (List.mem_of_getElem? hx)))
            have Hx40 := Lib.hid (show x.h.xs.length ≤ 40 from (may_row (by rw [Hp2.out]; exact pickP_may ps (pl cs)) (pl_mem (List.mem_of_getElem? hx))).1)
            have Hvk := Lib.hid (valG_take (ps := ps) (ags := ags) (b := pl cs) (pl_at hx))
            have Hek := Lib.hid (errG_drop (ps := ps) (ags := ags) (b := pl cs) (pl_at hx))
            clear c0 c1 hx p0 p1 p2 p3 p4 p5 p6 p7
            obtain ⟨⟨xA, xn, xc, xs⟩, N⟩ := x
            have hgo : (m : Int) < n2 := by omega
            try simp only at d0 d1
            have Hb5 : Hid (Below wr.heap.size wr (wr.alloc (.cells #[.slice xA xn xc, .int .i64 N] 49))) := Lib.hid (below_one _ _)
            have D0 : Hid (Bf (wr.alloc (.cells #[.slice xA xn xc, .int .i64 N] 49)) wr.heap.size #[.slice xA xn xc, .int .i64 N] 49) := Lib.hid (Bf.new _ _ _)
            have Hw5 := Lib.hid (below_via (below_via HbW3.out hb.out) Hb5.out)
            have HQ5 := Lib.hid ((HQ4.out.below hb.out Hl4.out).below Hb5.out (Nat.lt_of_lt_of_le Hl4.out hb.out.size))
            have Hl5 := Lib.hid (Nat.lt_of_lt_of_le (Nat.lt_of_lt_of_le Hl4.out hb.out.size) Hb5.out.size)
            obtain ⟨y, hy⟩ : ∃ y, (⟨(rowT xs).toArray⟩ : ByteArray) = y := ⟨_, rfl⟩
            have Hy := Lib.hid hy
            obtain ⟨rA, rc, hr, hrc, hrm, hrs⟩ := (HG4.out.each y).sl cOk.len
            obtain ⟨Rl, hRl⟩ : ∃ Rl, keyF ps cs y = Rl := ⟨_, rfl⟩
            have HRm : Hid (∀ z ∈ Rl, z ∈ cs) := Lib.hid fun z hz => by rw [← hRl] at hz; exact (List.mem_filter.1 hz).1
            have Hrn : Hid (Rl.length ≤ n) := Lib.hid (by rw [← hRl, ← HA.out.len]; exact List.length_filter_le _ _)
            have Hin : Hid (pl Rl = inB ps xs (pl cs)) := Lib.hid (by rw [← hRl, ← hy]; exact key_inB HvG.out Hxv.out)
            rw [hRl] at hr hrc hrs
            obtain ⟨rn, hrn⟩ : ∃ rn, Rl.length = rn := ⟨_, rfl⟩
            rw [hrn] at hr hrc Hrn
            have Hat := Lib.hid hr
            have Hrs := Lib.hid hrs
            have HRn := Lib.hid hrn
            have hrnm := Hrn.out
            have HGk : Hid (GOk (pl Rl)) := Lib.hid (by rw [Hin.out]; exact Hmay.out.2.filter _)
            have HBk : Hid (∀ w9, Below W3.heap.size W3 w9 → BgIn w9 rA rn Rl) := Lib.hid fun w9 h9 =>
             ⟨HRn.out, by unfold maxLen; omega, Hrs.out.after h9, fun z hz => ((HA.out.after HbW3.out).after h9).each z (HRm.out z hz)⟩
            have HS9 : Hid (∀ w9, Below (wr.alloc (.cells #[.slice xA xn xc, .int .i64 N] 49)).heap.size (wr.alloc (.cells #[.slice xA xn xc, .int .i64 N] 49)) w9 → w9.cell? ⟨w.heap.size, 8, none⟩ = some (.slice aA an ac) ∧ w9.cell? ⟨wr.heap.size, 0, none⟩ = some (.slice xA xn xc)) := Lib.hid fun w9 h9 =>
             ⟨(HQ5.out.below h9 Hl5.out).allG.2.2.2.2.2.2.2.2, (D0.out.after h9 D0.out.lt).cell 0⟩
            clear hy hr hrs hrn hRl
            go_wp2_with fail
            clear d0 d1
            have HC : Hid (Below (wr.alloc (.cells #[.slice xA xn xc, .int .i64 N] 49)).heap.size (wr.alloc (.cells #[.slice xA xn xc, .int .i64 N] 49)) (wr.alloc (.cells #[.slice xA xn xc, .int .i64 N] 49))) := Lib.hid (Below.refl _ _)
            obtain ⟨s0, s1⟩ := HS9.out _ HC.out
            have lU : wr.heap.size < (wr.alloc (.cells #[.slice xA xn xc, .int .i64 N] 49)).heap.size := by simp
            have lV : w.heap.size < (wr.alloc (.cells #[.slice xA xn xc, .int .i64 N] 49)).heap.size := Hl5.out
            go_region_held3 (fun w9 => w9.cell? ⟨w.heap.size, 8, none⟩ = some (.slice aA an ac) ∧ w9.cell? ⟨wr.heap.size, 0, none⟩ = some (.slice xA xn xc)) (first | exact HS9.out _ HC.out | exact HS9.out _ HC.out.drew | go_keep)
             (first
               | (go_at_call 32
                  refine (rtext_c xA xn xc xs _ Hxr.out.hd.len (by have h1 := Hxr.out.hd.len; have h2 := Hx40.out; simp only at h1; omega) ((Hxr.out.after Hb5.out).hd.after (by first | exact HC.out | exact HC.out.drew)).sl Hxr.out.n64 (fun v hv => Nat.le_trans (valid_sz (Hxv.out v hv)) (by decide)) ((HGl.out.after Hw5.out).after (by first | exact HC.out | exact HC.out.drew))).mono ?_
                  rintro en w9 ⟨rfl, hb9⟩
                  replace HC : Hid (Below (wr.alloc (.cells #[.slice xA xn xc, .int .i64 N] 49)).heap.size (wr.alloc (.cells #[.slice xA xn xc, .int .i64 N] 49)) w9) := Lib.hid (by first | exact below_via HC.out hb9 | exact below_via HC.out.drew hb9)
                  rw [show (⟨(rowT xs).toArray⟩ : ByteArray) = y from Hy.out]
                  have hlk : ∀ ty, Tryz.prog.underlying ty = some (.map 9 30) → (Instr.lookup ty (.map (some mb)) (.string y) false).run Tryz.prog w9 = .ok (.slice rA rn rc) w9 := fun ty hty => by
                   have h1 := run_lookS hty nilS (by kernel_rfl) ((HG4.out.map.after (hb.out)).after (below_via Hb5.out HC.out)) y
                   rw [show (getS l y).getD nilS = .slice rA rn rc from Hat.out] at h1
                   exact h1
                  have hlk2 := hlk 66 Tryz.underlying66
                  clear hb9 hlk)
               | (go_at_call 31
                  refine (aggregates_c aA rA an ac rn rc ags Rl _ ((HL.out.after Hw5.out).after (by first | exact HC.out | exact HC.out.drew)) HLn.out (by omega) (HBk.out _ (by first | exact hb.out.trans ((below_via Hb5.out HC.out).mono hb.out.size) | exact hb.out.trans ((below_via Hb5.out HC.out.drew).mono hb.out.size))) HGk.out (by omega)).mono ?_
                  rintro en w8 ⟨h8, er8, rfl, hA8⟩
                  have HA8 := Lib.hid hA8
                  replace HC : Hid (Below (wr.alloc (.cells #[.slice xA xn xc, .int .i64 N] 49)).heap.size (wr.alloc (.cells #[.slice xA xn xc, .int .i64 N] 49)) w8) := Lib.hid (by first | exact below_via HC.out hA8.below | exact below_via HC.out.drew hA8.below)
                  clear hA8))
            obtain ⟨h8A, h8n, h8c, h8xs⟩ := h8
            have HwC : Hid (Below wr.heap.size wr w8) := Lib.hid (below_via Hb5.out HC.out)
            have HB8 : Hid (Below W3.heap.size W3 w8) := Lib.hid (hb.out.trans (HwC.out.mono hb.out.size))
            have Hek2 : Hid (errG ps ags (pl cs) (pl os) = if er8 = 0 then errG ps ags (pl cs) ((pl os).drop (m + 1)) else er8) := Lib.hid (by
             rw [her.out, Hek.out, HA8.out.said, Hin.out])
            dsimp only [Hd.v]
            clear hlk2 s0 s1 Hek her
            by_cases hz : er8 = 0
            · have hz1 : (er8 != 0) = false := by simp [hz]
              have Hz := Lib.hid hz
              have Hs9 := HS9.out _ HC.out
              have g0 := Hs9.2
              have lg8 : wr.heap.size < w8.heap.size := Nat.lt_of_lt_of_le lU HC.out.size
              have HJ : Hid (joinR [(⟨xA, xn, xc, xs⟩ : Hd), ⟨h8A, h8n, h8c, h8xs⟩] = xs ++ aggsV (pl Rl) ags) := Lib.hid (by
               have h1 : h8xs = aggsV (pl Rl) ags := (HA8.out.ok hz).1
               simp [joinR, h1])
              have Hok : Hid (∀ v ∈ xs ++ aggsV (pl Rl) ags, Okv v) := Lib.hid (fun v hv => by
               rcases List.mem_append.1 hv with h | h
               · exact ⟨Hxr.out.sz v h, Hxr.out.n64 v h⟩
               · obtain ⟨a, _, rfl⟩ := List.mem_map.1 h
                 refine okv_agg HGk.out (fun x hx v hv => ?_) _ _
                 obtain ⟨z, hz, rfl⟩ := List.mem_map.1 hx
                 have := (HBk.out _ HB8.out).each z hz
                 exact ⟨this.sz v hv, this.n64 v hv⟩)
              have HxB := Lib.hid ((Hxr.out.after HwC.out).hd)
              have HhB := Lib.hid HA8.out.hin
              have Hlj : Hid ((xs ++ aggsV (pl Rl) ags).length ≤ 100000) := Lib.hid (by
               have h1 := Hx40.out
               have h2 : (aggsV (pl Rl) ags).length = an := by unfold aggsV; rw [List.length_map]; exact HLn.out
               try simp only at h1
               rw [List.length_append, h2]
               omega)
              have Ho8 := Lib.hid (ho.out.after HwC.out)
              have Ha8 := Lib.hid (hap.out.after HwC.out)
              have HOr : Hid (∀ k, (Value.slice A' m c').ownBlock = some k → k < w8.heap.size) := Lib.hid fun k hk => (Ho8.out.lt k hk).2
              clear hz ho hap Hs9 lU lV
              go_wp2_with fail
              have hbj := Lib.hid (below_one w8 (.cells #[.slice xA xn xc, .slice h8A h8n h8c] 47))
              have hsj : Hid (SlG (w8.alloc (.cells #[.slice xA xn xc, .slice h8A h8n h8c] 47)) (some ⟨w8.heap.size, 0, none⟩) 1 rdH [⟨xA, xn, xc, xs⟩, ⟨h8A, h8n, h8c, h8xs⟩]) := Lib.hid (SlG.new hOk.len [⟨xA, xn, xc, xs⟩, ⟨h8A, h8n, h8c, h8xs⟩] rfl)
              refine (join_c (some ⟨w8.heap.size, 0, none⟩) 2 2 [⟨xA, xn, xc, xs⟩, ⟨h8A, h8n, h8c, h8xs⟩] _ rfl (by unfold maxLen; omega) hsj.out (fun h' hh' => by
               rcases List.mem_cons.1 hh' with rfl | hh'
               · exact HxB.out.after hbj.out
               · rw [List.mem_singleton] at hh'; subst hh'; exact HhB.out.after hbj.out) (by rw [HJ.out]; exact Hlj.out)).mono ?_
              rintro en w9 ⟨v9, rfl, hb9, hv9⟩
              rw [HJ.out] at hv9
              obtain ⟨h9, rfl, hIn9, hxs9, hbl9, hnc9⟩ := hv9.hd
              have Hb9 := Lib.hid (below_via hbj.out hb9)
              have Hn9 : Hid (Ct.In w9 ⟨h9, 1⟩) := Lib.hid ⟨hIn9, fun v hv => (Hok.out v (by rw [← hxs9]; exact hv)).1, fun v hv => (Hok.out v (by rw [← hxs9]; exact hv)).2, ⟨by show (-9223372036854775808 : Int) ≤ 1; decide, by show (1 : Int) ≤ 9223372036854775807; decide⟩, hnc9⟩
              have Hxs9 := Lib.hid hxs9
              have Hl9 : Hid (∀ b off, h9.A = some ⟨b, off, none⟩ → w8.heap.size ≤ b ∧ b < w9.heap.size) := Lib.hid fun b off hA => ⟨Nat.le_trans hbj.out.size (hbl9 b off hA).1, (hbl9 b off hA).2⟩
              have HB9 := Lib.hid (HB8.out.trans (Hb9.out.mono HB8.out.size))
              have Ho9 := Lib.hid (Ho8.out.after Hb9.out)
              have Ha9 := Lib.hid (Ha8.out.after Hb9.out)
              obtain ⟨h9A, h9n, h9c, h9xs⟩ := h9
              dsimp only [Hd.v]
              clear hv9 hIn9 hxs9 hbl9 hnc9 hb9 hbj hsj
              go_wp2_with (at_builtin; go_must (
               refine wpList_appL cOk rfl (.tmp 63) (.tmp 70) rfl W3.heap.size (.slice A' m c') ol [⟨⟨h9A, h9n, h9c, h9xs⟩, 1⟩] (some ⟨w9.heap.size, 0, none⟩) 1 1 rfl (Ho9.out.after (below_one _ _)) rfl rfl (SlG.new cOk.len [⟨⟨h9A, h9n, h9c, h9xs⟩, 1⟩] rfl) (by rw [hol.out]; simp [maxLen]; omega) (by rw [hol.out]; simp; omega) (by have := HB9.out.size; simp; omega) ?_
               intro v3 w2 hv hg hloc
               obtain ⟨A3, c3, rfl⟩ := hv.isSlice
               have HX2 := Lib.hid (below_one w9 (.cells #[.slice h9A h9n h9c, .int .i64 1] 49))
               have Hb2 := Lib.hid ((below_al HB9.out (.cells #[.slice h9A h9n h9c, .int .i64 1] 49)).grown hg (by have := HB9.out.size; simp; omega) (fun k hk => (Ho9.out.lt k hk).1))
               have HA2 := Lib.hid (Ha9.out.app HX2.out hg hloc Hn9.out (fun b' off' hb' => ⟨fun e => by have h1 := (HOr.out b' e); have h2 := (Hl9.out b' off' hb').1; omega, (Hl9.out b' off' hb').2⟩) Ho9.out.plain)
               have HLf : Hid ((ol ++ [(⟨⟨h9A, h9n, h9c, h9xs⟩, 1⟩ : Ct)]).length = m + 1) := Lib.hid (by rw [List.length_append, hol.out]; rfl)
               rw [HLf.out] at hv ⊢
               have Hv2 := Lib.hid hv
               clear hv hg hloc HX2))
              have Hst3 : Hid (pl (ol ++ [⟨⟨h9A, h9n, h9c, h9xs⟩, 1⟩]) = valG ps ags (pl cs) ((pl os).take (m + 1))) := Lib.hid (by
               rw [Hvk.out, ← hst.out, pl_app, pl_one, ← Hin.out]
               have e : h9xs = xs ++ aggsV (pl Rl) ags := Hxs9.out
               simp only [e])
              have Her3 : Hid (errG ps ags (pl cs) (pl os) = errG ps ags (pl cs) ((pl os).drop (m + 1))) := Lib.hid (by rw [Hek2.out, if_pos Hz.out])
              go_roundw
              case rel => exact ⟨m + 1, m + 1, A3, c3, _, by omega, rfl, by go_num, rfl, HLf, Hb2, Hv2, HA2, Hst3, Her3⟩
              case measure => simp [intOf]; omega
            · have hz1 : (er8 != 0) = true := by simp [hz]
              have HF : Hid (GrpSaid w none 0 [] er8 R w8) := Lib.hid (by
               have h1 : errG ps ags (pl cs) (pl os) = er8 := by rw [Hek2.out, if_neg hz]
               rw [Hp2.out] at h1
               have : R = ([], er8) := by
                rw [← HR.out]
                unfold rowsF
                have h2 : ps.length = pn := Hpl.out
                have h3 : ags.length = an := HLn.out
                rw [if_pos H0.out, if_neg HN0.out, if_neg (by omega), h1, if_neg hz]
               subst this
               exact ⟨below_via HbW3.out HB8.out, bgIn_nil _, rfl, rfl⟩)
              clear hz
              go_wp2_with fail
              go_ret2
              exact ⟨_, _, _, _, _, rfl, HF.out⟩
          · obtain rfl : m = n2 := by omega
            have hlen : (pl os).length = m := by rw [pl_len, HB4.out.len]
            have HF : Hid (GrpSaid w A' m ol 0 R wr) := Lib.hid (by
             have h1 : (pl os).take m = pl os := List.take_of_length_le (by omega)
             have h2 : (pl os).drop m = [] := List.drop_eq_nil_of_le (by omega)
             have h3 : errG ps ags (pl cs) (pl os) = 0 := by rw [her.out, h2]; rfl
             have h4 := hst.out
             rw [h1] at h4
             rw [Hp2.out] at h3 h4
             have : R = (valG ps ags (pl cs) (pickP ps (pl cs)), 0) := by
              rw [← HR.out]
              unfold rowsF
              have h5 : ps.length = pn := Hpl.out
              have h6 : ags.length = an := HLn.out
              rw [if_pos H0.out, if_neg HN0.out, if_neg (by omega), h3, if_pos rfl]
             subst this
             obtain ⟨A7, c7, e7, _, _, hs7⟩ := ho.out.sl cOk.len
             injection e7 with e7 e8 e9
             rw [← e7] at hs7
             exact ⟨below_via HbW3.out hb.out, ⟨hol.out, by unfold maxLen; omega, hs7, hap.out.each⟩, rfl, h4⟩)
            clear hlen her hst ho hap
            go_wp2_with fail
            go_ret2
            exact ⟨_, _, _, _, _, rfl, HF.out⟩
 · have hr1 : (r != 0) = true := by simp [h0]
   have HF : Hid (GrpSaid w none 0 [] r R W) := Lib.hid (by
    have : R = ([], r) := by rw [← HR.out]; unfold rowsF; rw [if_neg (by rw [Hr.out]; exact h0), Hr.out]
    subst this
    exact ⟨HbW.out, bgIn_nil _, rfl, rfl⟩)
   clear h0
   go_wp2_with fail
   go_ret2
   exact ⟨_, _, _, _, _, rfl, HF.out⟩
end Go.Proofs.YtldaoepemofhlaaGreatDoor
namespace Go.Proofs.YtldaoepemofhlaaGreatDoor
open Go Go.RowKit
set_option maxRecDepth 100000
set_option maxHeartbeats 4000000 in
theorem rofB_c (A : Option Addr) (n c : Nat) (hs : List Hd) (w : World) (hl : hs.length = n) (hn : n ≤ 1000) (hsl : SlG w A 1 rdH hs) (hin : ∀ h ∈ hs, Ct.In w ⟨h, 1⟩) :
 Calls Tryz.prog 44 #[.slice A n c] w fun e w' => ∃ A' n' c' cs', e = .returned (.slice A' n' c') ∧ Below w.heap.size w w' ∧ BgIn w' A' n' cs' ∧ pl cs' = ofR (hs.map (·.xs)) := by
 have Hl := Lib.hid hl
 have Hs := Lib.hid hsl
 have Hi := Lib.hid hin
 clear hl hsl hin
 obtain ⟨L, hL⟩ : ∃ L, hs.map (·.xs) = L := ⟨_, rfl⟩
 rw [hL]
 have HL := Lib.hid hL
 clear hL
 go_enter Tryz.func44, Tryz.ntmps44
 go_wp2_with fail
 go_loopw [3, 4] (fun v i wr => ∃ (k : Nat) (A' : Option Addr) (n' c' : Nat) (cs' : List Ct), k ≤ n ∧ i = .int .i64 k ∧ v = .slice A' n' c' ∧ Hid (Below w.heap.size w wr) ∧ Hid (BgIn wr A' n' cs') ∧ Hid (pl cs' = bothB [] ((L.map fun r => (r, (1 : Int))).take k)) ∧ Hid (Bd k (pl cs')) ∧ Hid (n' ≤ k) ∧ Hid (L.all mayR = (L.drop k).all mayR)) (fun _ i _ => n - (intOf i).toNat)
 case atStart => exact ⟨0, some ⟨w.heap.size, 0, none⟩, 0, 0, [], Nat.zero_le _, rfl, rfl, Lib.hid (below_one _ _), Lib.hid (BgIn.empty _ _), Lib.hid rfl, Lib.hid nofun, Lib.hid (Nat.le_refl _), Lib.hid rfl⟩
 case round =>
  obtain ⟨k, A', n', c', cs', hk, rfl, rfl, hb, hI, he, hd, hm, hall⟩ := hrel
  by_cases hlt : k < n
  · obtain ⟨b, off, x, rfl, hblt, hx, c0⟩ := Hs.out.at1 (by rw [Hl.out]; exact hlt)
    have d0 := (hb.out.cell (p := ⟨b, off + k, none⟩) hblt).trans (c0 _ rfl)
    have l0 : b < wr.heap.size := Nat.lt_of_lt_of_le hblt hb.out.size
    have Hx := Lib.hid ((Hi.out x (List.mem_of_getElem? hx)).after hb.out)
    have hLk : L[k]? = some x.xs := by rw [← HL.out]; exact xs_at hx
    have hst := hall.out.trans (all_dropG mayR L k x.xs hLk)
    have Hst := Lib.hid hst
    have HLk : Hid ((L.map fun r => (r, (1 : Int)))[k]? = some (x.xs, 1)) := Lib.hid (by rw [List.getElem?_map, hLk]; rfl)
    have Has : Hid (Asc (pl cs')) := Lib.hid (by rw [he.out]; exact asc_both _ _ List.Pairwise.nil)
    have H64 : Hid (∀ y ∈ cs', -9223372036854775808 ≤ 1 + y.N ∧ 1 + y.N ≤ 9223372036854775807) := Lib.hid fun y hy => by
     have h1 := hd.out _ (pl_mem hy)
     simp only [] at h1
     omega
    have Hn' : Hid (n' ≤ 100000) := Lib.hid (by have := hm.out; omega)
    clear hx c0 hblt hLk hst hall
    obtain ⟨xA, xn, xc, xs⟩ := x
    have HM := Lib.hid (rmayRow_c xA xn xc xs wr Hx.out.hd.len Hx.out.hd.max Hx.out.hd.sl Hx.out.sz)
    go_wp2_with fail
    refine HM.out.mono ?_
    rintro e w1 ⟨rfl, hb1⟩
    rw [rmay_mayR]
    have d0 := (hb1.cell (p := ⟨b, off + k, none⟩) l0).trans d0
    have l0 : b < w1.heap.size := Nat.lt_of_lt_of_le l0 hb1.size
    have HI1 := Lib.hid (hI.out.after hb1)
    have Hx1 := Lib.hid (Hx.out.after hb1)
    have Hb1 := Lib.hid (hb.out.trans (hb1.mono hb.out.size))
    clear hb1 HM hb hI Hx
    cases hy : mayR xs
    · have Hno : Hid (ofR L = []) := Lib.hid (by
       have := Hst.out
       simp only [hy, Bool.false_and] at this
       unfold ofR
       rw [this]
       rfl)
      clear Hst
      go_wp2
      go_ret
      exact ⟨none, 0, 0, [], rfl, Hb1.out, BgIn.none _, Hno.out.symm⟩
    · have Hst2 : Hid (L.all mayR = (L.drop (k + 1)).all mayR) := Lib.hid (by
       have := Hst.out
       simp only [hy, Bool.true_and] at this
       exact this)
      clear Hst
      go_wp2_with fail
      refine (radd_c A' n' c' cs' ⟨xA, xn, xc, xs⟩ 1 w1 HI1.out Hx1.out Has.out Hn'.out H64.out).mono ?_
      rintro en w2 ⟨A2, n2, c2, cs2, rfl, hb2, hI2, he2⟩
      have Hb2 := Lib.hid (Hb1.out.trans (hb2.mono Hb1.out.size))
      have HI2 := Lib.hid hI2
      have He2 := Lib.hid he2
      clear hb2 hI2 he2
      go_wp2
      go_roundw
      case rel =>
       refine ⟨k + 1, A2, n2, c2, cs2, by omega, by go_num, rfl, Hb2, HI2, Lib.hid ?_, Lib.hid ?_, Lib.hid ?_, Hst2⟩
       · rw [He2.out, he.out, both_take _ _ k _ HLk.out]
       · rw [He2.out]
         have h1 := bd_add (pl cs') xs 1 k 1 hd.out (by omega) (by omega) (by omega)
         rw [show ((k + 1 : Nat) : Int) = k + 1 by omega]
         exact h1
       · have h1 := len_add (pl cs') xs 1
         rw [← He2.out, pl_len, pl_len, HI2.out.len, HI1.out.len] at h1
         have := hm.out
         omega
      case measure => simp [intOf]; omega
  · obtain rfl : k = n := by omega
    have He : Hid (pl cs' = ofR L) := Lib.hid (by
     have h1 := he.out
     have h2 := hall.out
     have h3 : L.length = k := by rw [← HL.out, List.length_map, Hl.out]
     rw [List.take_of_length_le (by rw [List.length_map, h3]; exact Nat.le_refl _)] at h1
     rw [List.drop_eq_nil_of_le (by rw [h3]; exact Nat.le_refl _), List.all_nil] at h2
     unfold ofR
     rw [h2, if_pos rfl, h1]
     rfl)
    clear he hall
    go_wp2
    go_ret
    exact ⟨A', n', c', cs', rfl, hb.out, hI.out, He.out⟩
set_option maxHeartbeats 4000000 in
theorem rnegB_c (A : Option Addr) (n c : Nat) (cs : List Ct) (w : World) (hB : BgIn w A n cs) (hn : n ≤ 100000) :
 Calls Tryz.prog 26 #[.slice A n c] w fun e w' => ∃ A' n' c' cs', e = .returned (.slice A' n' c') ∧ Below w.heap.size w w' ∧ BgIn w' A' n' cs' ∧ pl cs' = negR (pl cs) := by
 have HB := Lib.hid hB
 clear hB
 go_enter Tryz.func26, Tryz.ntmps26
 go_wp2_with fail
 go_loopw [3, 4] (fun v i wr => ∃ (k : Nat) (A' : Option Addr) (c' : Nat), k ≤ n ∧ i = .int .i64 k ∧ v = .slice A' k c' ∧ Hid (Below w.heap.size w wr) ∧ Hid (OwnG wr w.heap.size 49 2 rdC (.slice A' k c') ((cs.take k).map negC)) ∧ Hid (k = 0 ∨ mayBag (pl cs) = true)) (fun _ i _ => n - (intOf i).toNat)
 case atStart => exact ⟨0, some ⟨w.heap.size, 0, none⟩, 0, Nat.zero_le _, rfl, rfl, Lib.hid (below_one _ _), Lib.hid (OwnG.made w w.heap.size _ #[] 0 (Nat.le_refl _) (Nat.zero_le _) rfl), Lib.hid (.inl rfl)⟩
 case round =>
  obtain ⟨k, A', c', hk, rfl, rfl, hb, ho, hm⟩ := hrel
  by_cases hlt : k < n
  · have hlt' : (k : Int) < n := by omega
    have HM := Lib.hid (rmayBag_c A n c cs wr (HB.out.after hb.out))
    go_wp2_with fail
    refine HM.out.mono ?_
    rintro e w1 ⟨rfl, hb1⟩
    have Ho1 := Lib.hid (ho.out.after hb1)
    have Hb1 := Lib.hid (hb.out.trans (hb1.mono hb.out.size))
    clear hb1 hb HM ho
    cases hM : mayBag (pl cs)
    · have hk0 : k = 0 := by
       rcases hm.out with h | h
       · exact h
       · rw [hM] at h; cases h
      subst hk0
      have Hno : Hid (negR (pl cs) = []) := Lib.hid (by unfold negR; rw [hM]; rfl)
      obtain ⟨A3, c3, e3, _, _, hs3⟩ := Ho1.out.sl cOk.len
      injection e3 with e3 e4 e5
      subst e3
      have Hs3 := Lib.hid hs3
      clear hs3 e4 e5 hm
      go_wp2
      go_ret
      exact ⟨A', 0, c', [], rfl, Hb1.out, ⟨rfl, Nat.zero_le _, Hs3.out, nofun⟩, Hno.out.symm⟩
    · obtain ⟨b, off, x, rfl, hblt, hx, c0, c1⟩ := HB.out.sl.at2 (k := k) (by rw [HB.out.len]; exact hlt)
      have d0 := (Hb1.out.cell (p := ⟨b, off + k * 2, none⟩) hblt).trans c0
      have d1 := (Hb1.out.cell (p := ⟨b, off + k * 2 + 1, none⟩) hblt).trans c1
      have l0 : b < w1.heap.size := Nat.lt_of_lt_of_le hblt Hb1.out.size
      have hq := bd_may hM _ (pl_mem (List.mem_of_getElem? hx))
      simp only [] at hq
      have hw : IntKind.i64.wrap (-x.N) = -x.N := by rw [IntKind.wrap_i64]; omega
      have Hnt := Lib.hid (neg_take cs k x hx)
      have HS : Hid (∀ w' : World, Below w.heap.size w w' → w'.cell? ⟨b, off + k * 2, none⟩ = some (.slice x.h.A x.h.n x.h.c) ∧ w'.cell? ⟨b, off + k * 2 + 1, none⟩ = some (.int .i64 x.N)) := Lib.hid fun w' hb' => ⟨(hb'.cell hblt).trans c0, (hb'.cell hblt).trans c1⟩
      have HLk : Hid (((cs.take k).map negC).length = k) := Lib.hid (by rw [List.length_map, List.length_take, HB.out.len]; omega)
      have HM2 := Lib.hid hM
      clear hx c0 c1 hblt hq hM hm
      obtain ⟨⟨xA, xn, xc, xs⟩, N⟩ := x
      simp only [] at d0 d1 hw
      go_wp2_with fail
      go_region_held3 (fun w' => w'.cell? ⟨b, off + k * 2, none⟩ = some (.slice xA xn xc) ∧ w'.cell? ⟨b, off + k * 2 + 1, none⟩ = some (.int .i64 N)) (first | exact HS.out _ Hb2.out | go_keep)
       (first
         | (refine step_appA cOk (by rfl) (.tmp 16) (.tmp 29) (by rfl) w.heap.size (.slice A' k c') ((cs.take k).map negC) [negC ⟨⟨xA, xn, xc, xs⟩, N⟩] (by rfl) (Ho1.out.after ((Below.refl _ _).drew.alloc (Nat.le_refl _) _)) (some ⟨w1.heap.size, 0, none⟩) 1 1 (by rfl) rfl (SlG.new cOk.len [negC ⟨⟨xA, xn, xc, xs⟩, N⟩] rfl) (by rw [HLk.out]; simp [maxLen]; omega) (by rw [HLk.out]; simp; omega) (by have := Hb1.out.size; simp; omega) ?_
            intro A2 c2 w2 hv hg
            rw [HLk.out] at hv ⊢
            rw [← Hnt.out] at hv
            have Hv2 := Lib.hid hv
            have Hb2 := Lib.hid ((Hb1.out.drew.alloc Hb1.out.size _).grown hg (by have := Hb1.out.size; simp; omega) (fun k hk => (Ho1.out.lt k hk).1))
            clear hv hg))
      go_wp2
      go_roundw
      case rel => exact ⟨k + 1, A2, c2, by omega, by go_num, rfl, Hb2, Hv2, Lib.hid (.inr HM2.out)⟩
      case measure => simp [intOf]; omega
  · obtain rfl : k = n := by omega
    have Ht : Hid (cs.take k = cs) := Lib.hid (List.take_of_length_le (by rw [HB.out.len]; exact Nat.le_refl _))
    have Hyes : Hid (pl (cs.map negC) = negR (pl cs)) := Lib.hid (by
     rw [pl_neg]
     unfold negR
     rcases hm.out with h | h
     · have : cs = [] := List.eq_nil_of_length_eq_zero (by rw [HB.out.len, h])
       rw [this]
       rfl
     · rw [h, if_pos rfl])
    obtain ⟨A3, c3, e3, _, _, hs3⟩ := ho.out.sl cOk.len
    injection e3 with e3 e4 e5
    subst e3
    rw [Ht.out] at hs3
    have Hs3 := Lib.hid hs3
    have Heach : Hid (∀ c ∈ cs.map negC, Ct.In w c) := Lib.hid (by
     intro c hc
     obtain ⟨y, hy, rfl⟩ := List.mem_map.1 hc
     have h1 := HB.out.each y hy
     rcases hm.out with h | h
     · have : cs = [] := List.eq_nil_of_length_eq_zero (by rw [HB.out.len, h])
       rw [this] at hy
       cases hy
     · have h2 := bd_may h _ (pl_mem hy)
       simp only [] at h2
       exact ⟨h1.hd, h1.sz, h1.n64, by show -9223372036854775808 ≤ -y.N ∧ -y.N ≤ 9223372036854775807; omega, h1.room⟩)
    clear hs3 e4 e5 hm
    go_wp2
    go_ret
    exact ⟨A', k, c', cs.map negC, rfl, hb.out, ⟨by rw [List.length_map, HB.out.len], HB.out.max, Hs3.out, fun c hc => (Heach.out c hc).after hb.out⟩, Hyes.out⟩
theorem dig_one : ∀ d : Nat, d < 10 → (⟨#[48, 49, 50, 51, 52, 53, 54, 55, 56, 57]⟩ : ByteArray).extract d (d + 1) = ⟨#[48 + UInt8.ofNat d]⟩
 | 0, _ => rfl
 | 1, _ => rfl
 | 2, _ => rfl
 | 3, _ => rfl
 | 4, _ => rfl
 | 5, _ => rfl
 | 6, _ => rfl
 | 7, _ => rfl
 | 8, _ => rfl
 | 9, _ => rfl
 | n + 10, h => absurd h (by omega)
theorem dec_small {u : Nat} (h : u < 10) : Lib.decDigits u = [48 + UInt8.ofNat u] := by rw [Lib.decDigits, dif_pos h, UInt8.ofNat_add]; rfl
theorem dec_big {u : Nat} (h : ¬ u < 10) : Lib.decDigits u = Lib.decDigits (u / 10) ++ [48 + UInt8.ofNat (u % 10)] := by rw [Lib.decDigits, dif_neg h, UInt8.ofNat_add]; rfl
theorem cat_one (a : UInt8) (l : List UInt8) : (⟨#[a]⟩ : ByteArray) ++ ⟨l.toArray⟩ = ⟨(a :: l).toArray⟩ := by
 apply ByteArray.ext
 simp
theorem dec_64 (u : Nat) (h : u < 18446744073709551616) : (Lib.decDigits u).length ≤ 20 := dec_len u 19 (by omega)
set_option maxHeartbeats 1000000 in
theorem rdigits_c (u : Nat) (w : World) (hu : u < 18446744073709551616) :
 Calls Tryz.prog 59 #[.int .u64 u] w fun e w' => e = .returned (.string ⟨(Lib.decDigits u).toArray⟩) ∧ Below w.heap.size w w' := by
 obtain ⟨R, hR⟩ : ∃ R, Lib.decDigits u = R := ⟨_, rfl⟩
 rw [hR]
 have HR := Lib.hid hR
 have HRl : Hid (R.length ≤ 20) := Lib.hid (by rw [← hR]; exact dec_64 u hu)
 clear hR
 go_enter Tryz.func59, Tryz.ntmps59
 go_wp2_with fail
 go_loopw [0, 3] (fun v s wr => ∃ (m : Nat) (l : List UInt8), m ≤ u ∧ v = .int .u64 m ∧ s = .string ⟨l.toArray⟩ ∧ Hid (Below w.heap.size w wr) ∧ Hid (Lib.decDigits m ++ l = R)) (fun v _ _ => (intOf v).toNat)
 case atStart => exact ⟨u, [], Nat.le_refl _, rfl, rfl, Lib.hid (Below.refl _ _), Lib.hid (by rw [List.append_nil]; exact HR.out)⟩
 case round =>
  obtain ⟨m, l, hm, rfl, rfl, hb, hinv⟩ := hrel
  have hl : l.length ≤ 20 := by
   have h1 := HRl.out
   rw [← hinv.out, List.length_append] at h1
   omega
  have hsz : (⟨l.toArray⟩ : ByteArray).size = l.length := by show l.toArray.size = _; simp
  clear HR HRl
  by_cases hlt : m < 10
  · have hlt' : ¬ (9 : Int) < m := by omega
    have hd := dig_one m hlt
    have Hr : Hid ((⟨#[48 + UInt8.ofNat m]⟩ : ByteArray) ++ ⟨l.toArray⟩ = ⟨R.toArray⟩) := Lib.hid (by
     rw [cat_one, ← hinv.out, dec_small hlt]
     rfl)
    have hs1 : (⟨#[48 + UInt8.ofNat m]⟩ : ByteArray).size = 1 := rfl
    clear hinv
    go_wp2
    go_ret
    exact ⟨congrArg (fun z => Ending.returned (Value.string z)) Hr.out, hb.out⟩
  · have hlt' : (9 : Int) < m := by omega
    have Hbig := Lib.hid (dec_big hlt)
    have Hlt := Lib.hid hlt
    obtain ⟨d, hdd⟩ : ∃ d, m % 10 = d := ⟨_, rfl⟩
    obtain ⟨q, hqq⟩ : ∃ q, m / 10 = q := ⟨_, rfl⟩
    have hd10 : d < 10 := by omega
    have hmd : (m : Int) % 10 = (d : Nat) := by omega
    have hmq : (m : Int) / 10 = (q : Nat) := by omega
    have hd := dig_one d hd10
    have hs1 : (⟨#[48 + UInt8.ofNat d]⟩ : ByteArray).size = 1 := rfl
    have hbig := Hbig.out
    rw [hdd, hqq] at hbig
    have Hi2 : Hid (Lib.decDigits q ++ ((48 + UInt8.ofNat d) :: l) = R) := Lib.hid (by
     rw [← hinv.out, hbig, List.append_assoc]
     rfl)
    have Hqm : Hid (q < m) := Lib.hid (by omega)
    clear hbig Hbig hinv hlt hdd hqq
    go_wp2
    go_roundw
    case rel => exact ⟨q, _, by have := Hqm.out; omega, rfl, by rw [cat_one], hb, Hi2⟩
    case measure => have := Hqm.out; simp [intOf]; omega
set_option maxHeartbeats 1000000 in
theorem rsigned_c (n : Int) (w : World) (hn : -9223372036854775808 ≤ n ∧ n ≤ 9223372036854775807) :
 Calls Tryz.prog 46 #[.int .i64 n] w fun e w' => e = .returned (.string ⟨(Lib.itoa n).toArray⟩) ∧ Below w.heap.size w w' := by
 by_cases h0 : n < 0
 · obtain ⟨k, rfl⟩ : ∃ k : Nat, n = -(k : Int) - 1 := ⟨(-n - 1).toNat, by omega⟩
   obtain ⟨R, hR⟩ : ∃ R, Lib.itoa (-(k : Int) - 1) = R := ⟨_, rfl⟩
   rw [hR]
   have hk : k < 9223372036854775808 := by omega
   have hD := rdigits_c (k + 1) w (by omega)
   obtain ⟨D, hd⟩ : ∃ D, Lib.decDigits (k + 1) = D := ⟨_, rfl⟩
   have HRd : Hid ((⟨#[45]⟩ : ByteArray) ++ ⟨D.toArray⟩ = ⟨R.toArray⟩) := Lib.hid (by
    rw [cat_one, ← hR]
    unfold Lib.itoa
    rw [if_pos (by omega), show (-(k : Int) - 1).natAbs = k + 1 by omega, hd])
   have hDl : D.length ≤ 20 := by rw [← hd]; exact dec_64 _ (by omega)
   have hsz : (⟨D.toArray⟩ : ByteArray).size = D.length := by show D.toArray.size = _; simp
   rw [hd, show ((k + 1 : Nat) : Int) = (k : Int) + 1 by omega] at hD
   have HD := Lib.hid hD
   have hs1 : (⟨#[45]⟩ : ByteArray).size = 1 := rfl
   have hw0 : IntKind.i64.wrap (-(k : Int) - 1 + 1) = -(k : Int) := by rw [IntKind.wrap_i64]; omega
   have hw1 : IntKind.i64.wrap (-(k : Int)) = -(k : Int) := by rw [IntKind.wrap_i64]; omega
   have hw2 : IntKind.i64.wrap (k : Int) = k := by rw [IntKind.wrap_i64]; omega
   have hw3 : IntKind.u64.wrap (k : Int) = k := by rw [IntKind.wrap_u64]; omega
   have hw4 : IntKind.u64.wrap ((k : Int) + 1) = (k : Int) + 1 := by rw [IntKind.wrap_u64]; omega
   clear hR hD hd
   go_enter Tryz.func46, Tryz.ntmps46
   go_wp2_with fail
   refine HD.out.mono ?_
   rintro e w1 ⟨rfl, hb1⟩
   have Hb1 := Lib.hid hb1
   clear hb1 HD
   go_wp2
   go_ret
   exact ⟨congrArg (fun z => Ending.returned (Value.string z)) HRd.out, Hb1.out⟩
 · obtain ⟨k, rfl⟩ : ∃ k : Nat, n = k := ⟨n.toNat, by omega⟩
   have he : Lib.itoa (k : Int) = Lib.decDigits k := by
    unfold Lib.itoa
    rw [if_neg h0, Int.toNat_natCast]
   rw [he]
   have HD := Lib.hid (rdigits_c k w (by omega))
   obtain ⟨D, hd⟩ : ∃ D, Lib.decDigits k = D := ⟨_, rfl⟩
   rw [hd] at HD ⊢
   have hw3 : IntKind.u64.wrap (k : Int) = k := by rw [IntKind.wrap_u64]; omega
   clear he hd
   go_enter Tryz.func46, Tryz.ntmps46
   go_wp2_with fail
   refine HD.out.mono ?_
   rintro e w1 ⟨rfl, hb1⟩
   have Hb1 := Lib.hid hb1
   clear hb1 HD
   go_wp2
   go_ret
   exact ⟨rfl, Hb1.out⟩
set_option maxHeartbeats 400000 in
theorem rtext_null (x : Val) (w : World) (h : (x.k == 0) = true) : Calls Tryz.prog 58 #[x.v] w fun e w' => e = .returned (.string ⟨#[110, 117, 108, 108]⟩) ∧ Below w.heap.size w w' := by
 go_enter Tryz.func58, Tryz.ntmps58
 go_wp2
 go_ret
 exact ⟨rfl, below_one _ _⟩
set_option maxHeartbeats 400000 in
theorem rtext_false (x : Val) (w : World) (h0 : (x.k == 0) = false) (h : (x.k == 1) = true) (hn : (x.n == 0) = true) : Calls Tryz.prog 58 #[x.v] w fun e w' => e = .returned (.string ⟨#[102, 97, 108, 115, 101]⟩) ∧ Below w.heap.size w w' := by
 go_enter Tryz.func58, Tryz.ntmps58
 go_wp2
 go_ret
 exact ⟨rfl, below_one _ _⟩
set_option maxHeartbeats 400000 in
theorem rtext_true (x : Val) (w : World) (h0 : (x.k == 0) = false) (h : (x.k == 1) = true) (hn : (x.n == 0) = false) : Calls Tryz.prog 58 #[x.v] w fun e w' => e = .returned (.string ⟨#[116, 114, 117, 101]⟩) ∧ Below w.heap.size w w' := by
 go_enter Tryz.func58, Tryz.ntmps58
 go_wp2
 go_ret
 exact ⟨rfl, below_one _ _⟩
set_option maxHeartbeats 400000 in
theorem rtext_other (x : Val) (w : World) (h0 : (x.k == 0) = false) (h1 : (x.k == 1) = false) (h2 : (x.k == 2) = false) (h3 : (x.k == 3) = false) : Calls Tryz.prog 58 #[x.v] w fun e w' => e = .returned (.string ⟨#[63]⟩) ∧ Below w.heap.size w w' := by
 go_enter Tryz.func58, Tryz.ntmps58
 go_wp2
 go_ret
 exact ⟨rfl, below_one _ _⟩
set_option maxHeartbeats 400000 in
theorem rtext_int (x : Val) (w : World) (h0 : (x.k == 0) = false) (h1 : (x.k == 1) = false) (h : (x.k == 2) = true) (hn : -9223372036854775808 ≤ x.n ∧ x.n ≤ 9223372036854775807) :
 Calls Tryz.prog 58 #[x.v] w fun e w' => e = .returned (.string ⟨(Lib.itoa x.n).toArray⟩) ∧ Below w.heap.size w w' := by
 have Hn := Lib.hid hn
 clear hn
 go_enter Tryz.func58, Tryz.ntmps58
 go_wp2_with fail
 refine (rsigned_c x.n _ Hn.out).mono ?_
 rintro e w1 ⟨rfl, hb1⟩
 have hb := below_via (below_one w _) hb1
 clear hb1
 go_wp2
 go_ret
 exact ⟨rfl, hb⟩
theorem sub1_snoc (c : UInt8) (r : List UInt8) : ∀ (l : List UInt8) (b : UInt8), sub1 c r (l ++ [b]) = sub1 c r l ++ (if b = c then r else [b])
 | [], b => by
   rw [List.nil_append, sub1, sub1]
   split <;> simp [sub1]
 | a :: l, b => by
   rw [List.cons_append, sub1, sub1, sub1_snoc c r l b]
   split <;> simp
theorem cat_two (a b : List UInt8) : (⟨a.toArray⟩ : ByteArray) ++ ⟨b.toArray⟩ = ⟨(a ++ b).toArray⟩ := by
 apply ByteArray.ext
 simp
theorem drop_at5 (s : ByteArray) (a : Nat) (h : a < s.size) : s.data.toList.drop a = s[a] :: s.data.toList.drop (a + 1) := List.drop_eq_getElem_cons h
theorem extract_one5 (s : ByteArray) (k : Nat) (h : k < s.size) : s.extract k (k + 1) = ⟨[s[k]].toArray⟩ := by
 have e : (s.data.toList.drop k).take (k + 1 - k) = [s[k]] := by
  rw [show k + 1 - k = 1 by omega, drop_at5 s k h]
  rfl
 rw [Lib.extract_eq, e]
theorem take_at5 (s : ByteArray) (k : Nat) (h : k < s.size) : s.data.toList.take (k + 1) = s.data.toList.take k ++ [s[k]] := by
 rw [List.take_add_one, List.getElem?_eq_getElem (show k < s.data.toList.length from h)]
 rfl
set_option maxHeartbeats 2000000 in
theorem rtext_text (x : Val) (w : World) (h0 : (x.k == 0) = false) (h1 : (x.k == 1) = false) (h2 : (x.k == 2) = false) (h3 : (x.k == 3) = true) (hs : x.s.size ≤ 2000) :
 Calls Tryz.prog 58 #[x.v] w fun e w' => e = .returned (.string ⟨([39] ++ sub1 39 [39, 39] x.s.data.toList ++ [39]).toArray⟩) ∧ Below w.heap.size w w' := by
 obtain ⟨xk, xn, s⟩ := x
 simp only [] at h0 h1 h2 h3 hs ⊢
 obtain ⟨R, hR⟩ : ∃ R, [39] ++ sub1 39 [39, 39] s.data.toList ++ [39] = R := ⟨_, rfl⟩
 rw [hR]
 have HR := Lib.hid hR
 clear hR
 go_enter Tryz.func58, Tryz.ntmps58
 go_wp2_with fail
 have Hb1 := Lib.hid (below_one w (.cells #[.int .i64 xk, .int .i64 xn, .string s] 39))
 have Hc2 : Hid ((w.alloc (.cells #[.int .i64 xk, .int .i64 xn, .string s] 39)).cell? ⟨w.heap.size, 2, none⟩ = some (.string s)) := Lib.hid (Bx.new w ⟨xk, xn, s⟩).cell2
 obtain ⟨g, hg⟩ : ∃ g, w.heap.size = g := ⟨_, rfl⟩
 obtain ⟨W, hW⟩ : ∃ W, w.alloc (.cells #[.int .i64 xk, .int .i64 xn, .string s] 39) = W := ⟨_, rfl⟩
 rw [hW] at Hb1 Hc2 ⊢
 have hg2 : Hid (Below w.heap.size w W) := Hb1
 rw [hg] at Hc2 ⊢
 clear hW Hb1
 go_loopw [3, 4] (fun v i wr => ∃ (k : Nat) (l : List UInt8), k ≤ s.size ∧ i = .int .i64 k ∧ v = .string ⟨l.toArray⟩ ∧ W = wr ∧ Hid (l = [39] ++ sub1 39 [39, 39] (s.data.toList.take k))) (fun _ i _ => s.size - (intOf i).toNat)
 case atStart => exact ⟨0, [39], Nat.zero_le _, rfl, rfl, rfl, Lib.hid rfl⟩
 case round =>
  obtain ⟨k, l, hk, rfl, rfl, rfl, hl⟩ := hrel
  have d2 := Hc2.out
  have hll : l.length ≤ 5000 := by
   have h1 := sub1_le 39 (s.data.toList.take k)
   rw [hl.out, List.length_append]
   have h2 : (s.data.toList.take k).length ≤ k := List.length_take_le _ _
   simp only [List.length_cons, List.length_nil]
   omega
  have hsz : (⟨l.toArray⟩ : ByteArray).size = l.length := by show l.toArray.size = _; simp
  by_cases hlt : k < s.size
  · have hlt' : (k : Int) < s.size := by omega
    have hx := extract_one5 s k hlt
    have Hta := Lib.hid (take_at5 s k hlt)
    by_cases hc : s[k] = 39
    · have hc' : (s[k].toNat : Int) = 39 := by rw [hc]; rfl
      have Hl2 : Hid (l ++ [39] ++ [39] = [39] ++ sub1 39 [39, 39] (s.data.toList.take (k + 1))) := Lib.hid (by
       rw [Hta.out, sub1_snoc, if_pos hc, hl.out]
       simp)
      go_wp2
      go_roundw
      case rel => exact ⟨k + 1, _, by omega, by go_num, congrArg Value.string (by rw [show (⟨#[39]⟩ : ByteArray) = ⟨[39].toArray⟩ from rfl, cat_two, cat_two]), trivial, Hl2⟩
      case measure => simp [intOf]; omega
    · have hc' : ¬ (s[k].toNat : Int) = 39 := fun h => hc (UInt8.toNat_inj.1 (by have : (39 : UInt8).toNat = 39 := rfl; omega))
      have Hl2 : Hid (l ++ [s[k]] = [39] ++ sub1 39 [39, 39] (s.data.toList.take (k + 1))) := Lib.hid (by
       rw [Hta.out, sub1_snoc, if_neg hc, hl.out]
       simp)
      go_wp2
      go_roundw
      case rel => exact ⟨k + 1, _, by omega, by go_num, congrArg Value.string (by rw [show (⟨#[s[k]]⟩ : ByteArray) = ⟨[s[k]].toArray⟩ from rfl, cat_two]), trivial, Hl2⟩
      case measure => simp [intOf]; omega
  · obtain rfl : k = s.size := by omega
    have Hr : Hid ((⟨l.toArray⟩ : ByteArray) ++ ⟨#[39]⟩ = ⟨R.toArray⟩) := Lib.hid (by
     rw [show (⟨#[39]⟩ : ByteArray) = ⟨[39].toArray⟩ from rfl, cat_two, ← HR.out, hl.out, show s.data.toList.take s.size = s.data.toList from List.take_of_length_le (Nat.le_refl _)])
    clear hl HR
    go_wp2
    go_ret
    exact ⟨congrArg (fun z => Ending.returned (Value.string z)) Hr.out, hg2.out⟩
theorem rtextV_c (x : Val) (w : World) (hn : -9223372036854775808 ≤ x.n ∧ x.n ≤ 9223372036854775807) (hs : x.s.size ≤ 2000) :
 Calls Tryz.prog 58 #[x.v] w fun e w' => e = .returned (.string ⟨(textL x).toArray⟩) ∧ Below w.heap.size w w' := by
 unfold textL
 cases h0 : x.k == 0
 · cases h1 : x.k == 1
   · cases h2 : x.k == 2
     · cases h3 : x.k == 3
       · exact rtext_other x w h0 h1 h2 h3
       · exact rtext_text x w h0 h1 h2 h3 hs
     · exact rtext_int x w h0 h1 h2 hn
   · cases hz : x.n == 0
     · exact rtext_true x w h0 h1 hz
     · exact rtext_false x w h0 h1 hz
 · exact rtext_null x w h0
end Go.Proofs.YtldaoepemofhlaaGreatDoor
namespace Go.Proofs.YtldaoepemofhlaaGreatDoor
open Go
def cntT (n : Int) : List UInt8 := if n = 1 then [] else 42 :: Lib.itoa n
def entT (x : List Val × Int) : List UInt8 := rowT x.1 ++ cntT x.2
def bagT (b : Bg) : List UInt8 := Lib.join (b.map entT) [32]
end Go.Proofs.YtldaoepemofhlaaGreatDoor
namespace Go.Proofs.YtldaoepemofhlaaGreatDoor
open Go Go.RowKit
set_option maxRecDepth 100000
theorem join_snoc (sep x : List UInt8) : ∀ l : List (List UInt8), l ≠ [] → Lib.join (l ++ [x]) sep = Lib.join l sep ++ (sep ++ x)
 | [], h => absurd rfl h
 | a :: l, _ => by
   rw [List.cons_append, Lib.join_cons, Lib.join_cons]
   simp [Lib.joinTail]
theorem body_next (xs : List Val) (k : Nat) (x : Val) (hx : xs[k]? = some x) : bodyL (xs.take (k + 1)) = bodyL (xs.take k) ++ ((if k = 0 then [] else [44, 32]) ++ textL x) := by
 unfold bodyL
 rw [List.take_add_one, hx, List.map_append]
 by_cases h : k = 0
 · subst h
   simp [Lib.join_one, Lib.join_nil]
 · rw [if_neg h]
   have hk : k < xs.length := (List.getElem?_eq_some_iff.1 hx).1
   exact join_snoc _ _ _ (fun e => by
    have := congrArg List.length e
    rw [List.length_map, List.length_take, List.length_nil] at this
    omega)
theorem body_len5 (xs : List Val) (h6 : ∀ x ∈ xs, -9223372036854775808 ≤ x.n ∧ x.n ≤ 9223372036854775807) (hz : ∀ x ∈ xs, x.s.size ≤ 2000) : ∀ k, k ≤ xs.length → (bodyL (xs.take k)).length ≤ k * 5002
 | 0, _ => by simp [bodyL, Lib.join_nil]
 | k + 1, hk => by
   have ih := body_len5 xs h6 hz k (by omega)
   have hx : xs[k]? = some (xs[k]'(by omega)) := List.getElem?_eq_getElem _
   have hm := List.mem_of_getElem? hx
   have ht := text_len _ (h6 _ hm) (hz _ hm)
   rw [body_next xs k _ hx, List.length_append, List.length_append]
   have : (if k = 0 then ([] : List UInt8) else [44, 32]).length ≤ 2 := by split <;> simp
   omega
theorem rowT_len (xs : List Val) (h6 : ∀ x ∈ xs, -9223372036854775808 ≤ x.n ∧ x.n ≤ 9223372036854775807) (hz : ∀ x ∈ xs, x.s.size ≤ 2000) (hn : xs.length ≤ 200) : (rowT xs).length ≤ 1000500 := by
 have h := body_len5 xs h6 hz xs.length (Nat.le_refl _)
 rw [List.take_of_length_le (Nat.le_refl _)] at h
 unfold rowT
 rw [List.length_append, List.length_append]
 simp only [List.length_cons, List.length_nil]
 omega
theorem bagT_next (b : Bg) (k : Nat) (x : List Val × Int) (hx : b[k]? = some x) : bagT (b.take (k + 1)) = bagT (b.take k) ++ ((if k = 0 then [] else [32]) ++ entT x) := by
 unfold bagT
 rw [List.take_add_one, hx, List.map_append]
 by_cases h : k = 0
 · subst h
   simp [Lib.join_one, Lib.join_nil]
 · rw [if_neg h]
   have hk : k < b.length := (List.getElem?_eq_some_iff.1 hx).1
   exact join_snoc _ _ _ (fun e => by
    have := congrArg List.length e
    rw [List.length_map, List.length_take, List.length_nil] at this
    omega)
def bagTR (b : Bg) : List UInt8 := if mayBag b then bagT b else []
set_option maxHeartbeats 1000000 in
theorem rtextR_c (A : Option Addr) (n c : Nat) (xs : List Val) (w : World) (hn : xs.length = n) (hn1 : n ≤ 200) (hs : Sl w A xs) (hx64 : ∀ x ∈ xs, -9223372036854775808 ≤ x.n ∧ x.n ≤ 9223372036854775807) (hz : ∀ x ∈ xs, x.s.size ≤ 2000) :
 Calls Tryz.prog 45 #[.slice A n c] w fun en w' => en = .returned (.string ⟨(rowT xs).toArray⟩) ∧ Below w.heap.size w w' := by
 obtain ⟨R, hR⟩ : ∃ R, rowT xs = R := ⟨_, rfl⟩
 rw [hR]
 have HR := Lib.hid hR
 have Hs := Lib.hid hs
 have Hn := Lib.hid hn
 have H6 := Lib.hid hx64
 have Hz := Lib.hid hz
 clear hR hs hn hx64 hz
 go_enter Tryz.func45, Tryz.ntmps45
 go_wp2_with fail
 go_loopw [3, 4] (fun v i wr => ∃ (k : Nat) (l : List UInt8), k ≤ n ∧ i = .int .i64 k ∧ v = .string ⟨l.toArray⟩ ∧ l.length ≤ 1 + k * 5002 ∧ Hid (Below w.heap.size w wr) ∧ Hid (l = [40] ++ bodyL (xs.take k))) (fun _ i _ => n - (intOf i).toNat)
 case atStart => exact ⟨0, [40], Nat.zero_le _, rfl, rfl, by simp, Lib.hid (Below.refl _ _), Lib.hid rfl⟩
 case round =>
  obtain ⟨k, l, hk, rfl, rfl, hll, hb, hl⟩ := hrel
  have hsz : (⟨l.toArray⟩ : ByteArray).size = l.length := by show l.toArray.size = _; simp
  by_cases hlt : k < n
  · obtain ⟨b, off, x, rfl, hblt, hx, e0, e1, e2⟩ := Hs.out.at3 (by rw [Hn.out]; exact hlt)
    have d0 := (hb.out.cell (p := ⟨b, off + k * 3, none⟩) hblt).trans e0
    have d1 := (hb.out.cell (p := ⟨b, off + k * 3 + 1, none⟩) hblt).trans e1
    have d2 := (hb.out.cell (p := ⟨b, off + k * 3 + 2, none⟩) hblt).trans e2
    have l0 : b < wr.heap.size := Nat.lt_of_lt_of_le hblt hb.out.size
    have Hnx := Lib.hid (body_next xs k x hx)
    have h6 := H6.out x (List.mem_of_getElem? hx)
    have hz := Hz.out x (List.mem_of_getElem? hx)
    have htl := text_len x h6 hz
    have HT := Lib.hid (rtextV_c x wr h6 hz)
    obtain ⟨T, hT⟩ : ∃ T, textL x = T := ⟨_, rfl⟩
    rw [hT] at HT Hnx htl
    have hsT : (⟨T.toArray⟩ : ByteArray).size = T.length := by show T.toArray.size = _; simp
    clear e0 e1 e2 hx hblt h6 hz hT
    have hlt' : (k : Int) < n := by omega
    by_cases hk0 : k = 0
    · have hk0' : ¬ (0 : Int) < k := by omega
      have Hl2 : Hid (l ++ T = [40] ++ bodyL (xs.take (k + 1))) := Lib.hid (by rw [Hnx.out, if_pos hk0, hl.out]; simp)
      clear hl Hnx hk0
      go_wp2_with fail
      refine HT.out.mono ?_
      rintro e w1 ⟨rfl, hb1⟩
      have Hb1 := Lib.hid (hb.out.trans (hb1.mono hb.out.size))
      clear hb1 HT
      go_wp2
      go_roundw
      case rel => exact ⟨k + 1, l ++ T, by omega, by go_num, congrArg Value.string (by rw [cat_two]), by rw [List.length_append]; omega, Hb1, Hl2⟩
      case measure => simp [intOf]; omega
    · have hk0' : (0 : Int) < k := by omega
      have hs2 : (⟨#[44, 32]⟩ : ByteArray).size = 2 := rfl
      have hcs : ((⟨l.toArray⟩ : ByteArray) ++ ⟨#[44, 32]⟩).size = l.length + 2 := by rw [show (⟨#[44, 32]⟩ : ByteArray) = ⟨[44, 32].toArray⟩ from rfl, cat_two]; show (l ++ [44, 32]).toArray.size = _; simp
      have Hl2 : Hid (l ++ [44, 32] ++ T = [40] ++ bodyL (xs.take (k + 1))) := Lib.hid (by rw [Hnx.out, if_neg hk0, hl.out]; simp)
      clear hl Hnx hk0
      go_wp2_with fail
      refine HT.out.mono ?_
      rintro e w1 ⟨rfl, hb1⟩
      have Hb1 := Lib.hid (hb.out.trans (hb1.mono hb.out.size))
      clear hb1 HT
      go_wp2
      go_roundw
      case rel => exact ⟨k + 1, l ++ [44, 32] ++ T, by omega, by go_num, congrArg Value.string (by rw [show (⟨#[44, 32]⟩ : ByteArray) = ⟨[44, 32].toArray⟩ from rfl, cat_two, cat_two]), by rw [List.length_append, List.length_append]; simp only [List.length_cons, List.length_nil]; omega, Hb1, Hl2⟩
      case measure => simp [intOf]; omega
  · obtain rfl : k = n := by omega
    have Hr : Hid ((⟨l.toArray⟩ : ByteArray) ++ ⟨#[41]⟩ = ⟨R.toArray⟩) := Lib.hid (by
     rw [show (⟨#[41]⟩ : ByteArray) = ⟨[41].toArray⟩ from rfl, cat_two, ← HR.out, hl.out, show xs.take k = xs from List.take_of_length_le (by rw [Hn.out]; exact Nat.le_refl _)]
     rfl)
    have hs1 : (⟨#[41]⟩ : ByteArray).size = 1 := rfl
    clear hl HR
    go_wp2
    go_ret
    exact ⟨congrArg (fun z => Ending.returned (Value.string z)) Hr.out, hb.out⟩
set_option maxHeartbeats 4000000 in
theorem rtextB_c (A : Option Addr) (n c : Nat) (cs : List Ct) (w : World) (hB : BgIn w A n cs) (hn : n ≤ 1000) (hz : ∀ c ∈ cs, c.h.n ≤ 200 ∧ ∀ x ∈ c.h.xs, x.s.size ≤ 2000) :
 Calls Tryz.prog 27 #[.slice A n c] w fun e w' => e = .returned (.string ⟨(bagTR (pl cs)).toArray⟩) ∧ Below w.heap.size w w' := by
 obtain ⟨R, hR⟩ : ∃ R, bagTR (pl cs) = R := ⟨_, rfl⟩
 rw [hR]
 have HR := Lib.hid hR
 have HB := Lib.hid hB
 have Hz := Lib.hid hz
 clear hB hR hz
 go_enter Tryz.func27, Tryz.ntmps27
 go_wp2_with fail
 go_loopw [3, 4] (fun v i wr => ∃ (k : Nat) (l : List UInt8), k ≤ n ∧ i = .int .i64 k ∧ v = .string ⟨l.toArray⟩ ∧ l.length ≤ k * 1000600 ∧ Hid (Below w.heap.size w wr) ∧ Hid (l = bagT ((pl cs).take k)) ∧ Hid (k = 0 ∨ mayBag (pl cs) = true)) (fun _ i _ => n - (intOf i).toNat)
 case atStart => exact ⟨0, [], Nat.zero_le _, rfl, rfl, by simp, Lib.hid (Below.refl _ _), Lib.hid rfl, Lib.hid (.inl rfl)⟩
 case round =>
  obtain ⟨k, l, hk, rfl, rfl, hll, hb, hl, hm⟩ := hrel
  have hsz : (⟨l.toArray⟩ : ByteArray).size = l.length := by show l.toArray.size = _; simp
  by_cases hlt : k < n
  · have hlt' : (k : Int) < n := by omega
    have HM := Lib.hid (rmayBag_c A n c cs wr (HB.out.after hb.out))
    go_wp2_with fail
    refine HM.out.mono ?_
    rintro e w1 ⟨rfl, hb1⟩
    have Hb1 := Lib.hid (hb.out.trans (hb1.mono hb.out.size))
    clear hb1 hb HM
    cases hM : mayBag (pl cs)
    · have hk0 : k = 0 := by
       rcases hm.out with h | h
       · exact h
       · rw [hM] at h; cases h
      have Hno : Hid (l = R) := Lib.hid (by
       rw [← HR.out, hl.out, hk0]
       unfold bagTR
       rw [hM]
       rfl)
      clear hl HR hm hk0
      go_wp2
      go_ret
      exact ⟨congrArg (fun z : List UInt8 => Ending.returned (Value.string ⟨z.toArray⟩)) Hno.out, Hb1.out⟩
    · obtain ⟨b, off, x, rfl, hblt, hx, c0, c1⟩ := HB.out.sl.at2 (k := k) (by rw [HB.out.len]; exact hlt)
      have HS : Hid (∀ w' : World, Below w.heap.size w w' → w'.cell? ⟨b, off + k * 2, none⟩ = some (.slice x.h.A x.h.n x.h.c) ∧ w'.cell? ⟨b, off + k * 2 + 1, none⟩ = some (.int .i64 x.N) ∧ b < w'.heap.size) := Lib.hid fun w' hb' => ⟨(hb'.cell hblt).trans c0, (hb'.cell hblt).trans c1, Nat.lt_of_lt_of_le hblt hb'.size⟩
      have Hi := Lib.hid ((HB.out.each x (List.mem_of_getElem? hx)).after Hb1.out)
      have Hzx := Lib.hid (Hz.out x (List.mem_of_getElem? hx))
      have Hnx := Lib.hid (bagT_next (pl cs) k _ (pl_at hx))
      have HM2 := Lib.hid hM
      clear hx c0 c1 hblt hm hM
      obtain ⟨⟨xA, xn, xc, xs⟩, N⟩ := x
      obtain ⟨d0, d1, l0⟩ := HS.out _ Hb1.out
      have hT := rtextR_c xA xn xc xs w1 Hi.out.hd.len Hzx.out.1 Hi.out.hd.sl Hi.out.n64 Hzx.out.2
      have hTl := rowT_len xs Hi.out.n64 Hzx.out.2 (by rw [Hi.out.hd.len]; exact Hzx.out.1)
      have hN := Hi.out.N64
      have hgl := itoa_len N hN
      have Hnx2 : Hid (bagT ((pl cs).take (k + 1)) = l ++ ((if k = 0 then [] else [32]) ++ (rowT xs ++ cntT N))) := Lib.hid (by rw [Hnx.out, hl.out]; rfl)
      obtain ⟨T, hTe⟩ : ∃ T, rowT xs = T := ⟨_, rfl⟩
      obtain ⟨G, hGe⟩ : ∃ G, Lib.itoa N = G := ⟨_, rfl⟩
      have HSg : Hid (∀ w', Calls Tryz.prog 46 #[.int .i64 N] w' fun e w'' => e = .returned (.string ⟨G.toArray⟩) ∧ Below w'.heap.size w' w'') := Lib.hid fun w' => by rw [← hGe]; exact rsigned_c N w' hN
      unfold cntT at Hnx2
      rw [hTe] at hT hTl Hnx2
      rw [hGe] at hgl Hnx2
      have HT := Lib.hid hT
      have hsT : (⟨T.toArray⟩ : ByteArray).size = T.length := by show T.toArray.size = _; simp
      have hsG : (⟨G.toArray⟩ : ByteArray).size = G.length := by show G.toArray.size = _; simp
      have hs32 : (⟨#[32]⟩ : ByteArray).size = 1 := rfl
      have hs42 : (⟨#[42]⟩ : ByteArray).size = 1 := rfl
      have hcat : ∀ a b : List UInt8, (⟨a.toArray⟩ : ByteArray) ++ ⟨b.toArray⟩ = ⟨(a ++ b).toArray⟩ := cat_two
      have Hcat := Lib.hid hcat
      clear hT hTe hGe hl Hnx hN hcat HR
      simp only [] at d0 d1
      have hsz2 : ((⟨l.toArray⟩ : ByteArray) ++ ⟨#[32]⟩).size = l.length + 1 := by rw [show (⟨#[32]⟩ : ByteArray) = ⟨[32].toArray⟩ from rfl, cat_two]; show (l ++ [32]).toArray.size = _; simp
      have hsz3 : ((⟨l.toArray⟩ : ByteArray) ++ ⟨T.toArray⟩).size = l.length + T.length := by rw [cat_two]; show (l ++ T).toArray.size = _; simp
      have hsz4 : ((⟨l.toArray⟩ : ByteArray) ++ ⟨#[32]⟩ ++ ⟨T.toArray⟩).size = l.length + 1 + T.length := by rw [show (⟨#[32]⟩ : ByteArray) = ⟨[32].toArray⟩ from rfl, cat_two, cat_two]; show (l ++ [32] ++ T).toArray.size = _; simp; omega
      have hsz5 : ((⟨#[42]⟩ : ByteArray) ++ ⟨G.toArray⟩).size = 1 + G.length := by rw [show (⟨#[42]⟩ : ByteArray) = ⟨[42].toArray⟩ from rfl, cat_two]; show ([42] ++ G).toArray.size = _; simp; omega
      by_cases hk0 : k = 0
      · have hk0' : ¬ (0 : Int) < k := by omega
        by_cases hN1 : N = 1
        · have Hl2 : Hid (l ++ T = bagT ((pl cs).take (k + 1))) := Lib.hid (by rw [Hnx2.out, if_pos hk0, if_pos hN1]; simp)
          have hN1' : (N != 1) = false := by simpa using hN1
          clear Hnx2 hk0 hN1
          go_wp2_with fail
          refine HT.out.mono ?_
          rintro e w2 ⟨rfl, hb2⟩
          have Hb2 := Lib.hid (Hb1.out.trans (hb2.mono Hb1.out.size))
          obtain ⟨e0, e1, m0⟩ := HS.out _ Hb2.out
          clear hb2 HT
          go_wp2
          go_roundw
          case rel => exact ⟨k + 1, _, by omega, by go_num, congrArg Value.string (by rw [cat_two]), by rw [List.length_append]; omega, Hb2, Hl2, Lib.hid (.inr HM2.out)⟩
          case measure => simp [intOf]; omega
        · have Hl2 : Hid (l ++ T ++ ([42] ++ G) = bagT ((pl cs).take (k + 1))) := Lib.hid (by rw [Hnx2.out, if_pos hk0, if_neg hN1]; simp)
          have hN1' : (N != 1) = true := by simpa using hN1
          clear Hnx2 hk0 hN1
          go_wp2_with fail
          refine HT.out.mono ?_
          rintro e w2 ⟨rfl, hb2⟩
          have Hb2 := Lib.hid (Hb1.out.trans (hb2.mono Hb1.out.size))
          obtain ⟨e0, e1, m0⟩ := HS.out _ Hb2.out
          clear hb2 HT
          go_wp2_with fail
          refine (HSg.out _).mono ?_
          rintro e w3 ⟨rfl, hb3⟩
          have Hb3 := Lib.hid (Hb2.out.trans (hb3.mono Hb2.out.size))
          clear hb3 HSg
          go_wp2
          go_roundw
          case rel => exact ⟨k + 1, _, by omega, by go_num, congrArg Value.string (by rw [show (⟨#[42]⟩ : ByteArray) = ⟨[42].toArray⟩ from rfl, cat_two, cat_two, cat_two]), by simp only [List.length_append, List.length_cons, List.length_nil]; omega, Hb3, Hl2, Lib.hid (.inr HM2.out)⟩
          case measure => simp [intOf]; omega
      · have hk0' : (0 : Int) < k := by omega
        by_cases hN1 : N = 1
        · have Hl2 : Hid (l ++ [32] ++ T = bagT ((pl cs).take (k + 1))) := Lib.hid (by rw [Hnx2.out, if_neg hk0, if_pos hN1]; simp)
          have hN1' : (N != 1) = false := by simpa using hN1
          clear Hnx2 hk0 hN1
          go_wp2_with fail
          refine HT.out.mono ?_
          rintro e w2 ⟨rfl, hb2⟩
          have Hb2 := Lib.hid (Hb1.out.trans (hb2.mono Hb1.out.size))
          obtain ⟨e0, e1, m0⟩ := HS.out _ Hb2.out
          clear hb2 HT
          go_wp2
          go_roundw
          case rel => exact ⟨k + 1, _, by omega, by go_num, congrArg Value.string (by rw [show (⟨#[32]⟩ : ByteArray) = ⟨[32].toArray⟩ from rfl, cat_two, cat_two]), by simp only [List.length_append, List.length_cons, List.length_nil]; omega, Hb2, Hl2, Lib.hid (.inr HM2.out)⟩
          case measure => simp [intOf]; omega
        · have Hl2 : Hid (l ++ [32] ++ T ++ ([42] ++ G) = bagT ((pl cs).take (k + 1))) := Lib.hid (by rw [Hnx2.out, if_neg hk0, if_neg hN1]; simp)
          have hN1' : (N != 1) = true := by simpa using hN1
          clear Hnx2 hk0 hN1
          go_wp2_with fail
          refine HT.out.mono ?_
          rintro e w2 ⟨rfl, hb2⟩
          have Hb2 := Lib.hid (Hb1.out.trans (hb2.mono Hb1.out.size))
          obtain ⟨e0, e1, m0⟩ := HS.out _ Hb2.out
          clear hb2 HT
          go_wp2_with fail
          refine (HSg.out _).mono ?_
          rintro e w3 ⟨rfl, hb3⟩
          have Hb3 := Lib.hid (Hb2.out.trans (hb3.mono Hb2.out.size))
          clear hb3 HSg
          go_wp2
          go_roundw
          case rel => exact ⟨k + 1, _, by omega, by go_num, congrArg Value.string (by rw [show (⟨#[32]⟩ : ByteArray) = ⟨[32].toArray⟩ from rfl, show (⟨#[42]⟩ : ByteArray) = ⟨[42].toArray⟩ from rfl, cat_two, cat_two, cat_two, cat_two]), by simp only [List.length_append, List.length_cons, List.length_nil]; omega, Hb3, Hl2, Lib.hid (.inr HM2.out)⟩
          case measure => simp [intOf]; omega
  · obtain rfl : k = n := by omega
    have Hyes : Hid (l = R) := Lib.hid (by
     rw [← HR.out, hl.out, show (pl cs).take k = pl cs from List.take_of_length_le (by rw [pl_len, HB.out.len]; exact Nat.le_refl _)]
     unfold bagTR
     rcases hm.out with h | h
     · have : cs = [] := List.eq_nil_of_length_eq_zero (by rw [HB.out.len, h])
       rw [this]
       rfl
     · rw [h, if_pos rfl])
    clear hl HR hm
    go_wp2
    go_ret
    exact ⟨congrArg (fun z : List UInt8 => Ending.returned (Value.string ⟨z.toArray⟩)) Hyes.out, hb.out⟩
attribute [local go_sem ↓] Go.wp_at_zero Go.wp_at_succ run_eqV run_neV
theorem rintG_c (n : Int) (w : World) : Calls Tryz.prog 24 #[.int .i64 n] w fun e w' => e = .returned (iv n).v ∧ Below w.heap.size w w' := by
 go_enter Tryz.func24, Tryz.ntmps24
 go_wp2
 exact bodyPost_ret (v := (iv n).v) (by simp [results, Tryz.results24, go_sem, iv]) rfl ⟨rfl, below_one _ _⟩
theorem mostG_c (w : World) : Calls Tryz.prog 25 #[] w fun e w' => e = .returned (.int .i64 9223372036854775807) ∧ Below w.heap.size w w' := by
 go_enter Tryz.func25, Tryz.ntmps25
 go_wp2
 go_ret
 exact ⟨rfl, Below.refl _ _⟩
def someB : Bg := [([iv 1, iv 5], 1), ([iv 1, iv 7], 1), ([iv 2, nl], 1)]
theorem someR : ofR [[iv 1, iv 5], [iv 1, iv 7], [iv 2, nl]] = someB := by kernel_rfl
theorem row2_in (w : World) (x y : Val) : Hd.In (w.alloc (.cells #[.int .i64 x.k, .int .i64 x.n, .string x.s, .int .i64 y.k, .int .i64 y.n, .string y.s] 39)) ⟨some ⟨w.heap.size, 0, none⟩, 2, 2, [x, y]⟩ :=
 ⟨rfl, by show 2 ≤ maxLen; unfold maxLen; omega, (SlG.new vOk.len [x, y] rfl).sl⟩
theorem ct2_in {w : World} {A : Option Addr} {x y : Val} (h : Hd.In w ⟨A, 2, 2, [x, y]⟩) (hx : Okv x) (hy : Okv y) : Ct.In w ⟨⟨A, 2, 2, [x, y]⟩, 1⟩ := by
 refine ⟨h, fun v hv => ?_, fun v hv => ?_, ⟨by show (-9223372036854775808 : Int) ≤ 1; decide, by show (1 : Int) ≤ 9223372036854775807; decide⟩, Nat.le_refl _⟩
 · simp only [List.mem_cons, List.not_mem_nil, or_false] at hv
   rcases hv with rfl | rfl
   · exact hx.1
   · exact hy.1
 · simp only [List.mem_cons, List.not_mem_nil, or_false] at hv
   rcases hv with rfl | rfl
   · exact hx.2
   · exact hy.2
theorem okv_iv {n : Int} (h : -9223372036854775808 ≤ n ∧ n ≤ 9223372036854775807) : Okv (iv n) := ⟨Nat.zero_le _, h⟩
set_option maxHeartbeats 4000000 in
theorem some_c (w : World) : Calls Tryz.prog 23 #[] w fun e w' => ∃ A n c cs, e = .returned (.slice A n c) ∧ Below w.heap.size w w' ∧ BgIn w' A n cs ∧ pl cs = someB := by
 go_enter Tryz.func23, Tryz.ntmps23
 go_wp2_with fail
 refine (rintG_c 1 _).mono ?_
 rintro e w1 ⟨rfl, hb1⟩
 go_wp2_with fail
 refine (rintG_c 5 _).mono ?_
 rintro e w2 ⟨rfl, hb2⟩
 have Hb2 := Lib.hid (below_via hb1 hb2)
 clear hb1 hb2
 go_wp2_with fail
 have H1 := Lib.hid (row2_in w2 (iv 1) (iv 5))
 have Hb3 : Hid (Below w.heap.size w (w2.alloc (.cells #[.int .i64 (iv 1).k, .int .i64 (iv 1).n, .string (iv 1).s, .int .i64 (iv 5).k, .int .i64 (iv 5).n, .string (iv 5).s] 39))) := Lib.hid (below_via Hb2.out (below_one _ _))
 refine (rintG_c 1 _).mono ?_
 rintro e w3 ⟨rfl, hb3⟩
 have H1a := Lib.hid (H1.out.after hb3)
 have Hb4 := Lib.hid (below_via Hb3.out hb3)
 obtain ⟨b1, hB1⟩ : ∃ b1, w2.heap.size = b1 := ⟨_, rfl⟩
 rw [hB1] at H1a ⊢
 clear hb3 H1 Hb3 Hb2 hB1
 go_wp2_with fail
 refine (rintG_c 7 _).mono ?_
 rintro e w4 ⟨rfl, hb4⟩
 have H1b := Lib.hid (H1a.out.after hb4)
 have Hb5 := Lib.hid (below_via Hb4.out hb4)
 clear hb4 H1a Hb4
 go_wp2_with fail
 have H2 := Lib.hid (row2_in w4 (iv 1) (iv 7))
 have H1c := Lib.hid (H1b.out.after (below_one w4 (.cells #[.int .i64 (iv 1).k, .int .i64 (iv 1).n, .string (iv 1).s, .int .i64 (iv 7).k, .int .i64 (iv 7).n, .string (iv 7).s] 39)))
 have Hb6 : Hid (Below w.heap.size w (w4.alloc (.cells #[.int .i64 (iv 1).k, .int .i64 (iv 1).n, .string (iv 1).s, .int .i64 (iv 7).k, .int .i64 (iv 7).n, .string (iv 7).s] 39))) := Lib.hid (below_via Hb5.out (below_one _ _))
 refine (rintG_c 2 _).mono ?_
 rintro e w5 ⟨rfl, hb5⟩
 have H1d := Lib.hid (H1c.out.after hb5)
 have H2d := Lib.hid (H2.out.after hb5)
 have Hb7 := Lib.hid (below_via Hb6.out hb5)
 obtain ⟨b2, hB2⟩ : ∃ b2, w4.heap.size = b2 := ⟨_, rfl⟩
 rw [hB2] at H2d ⊢
 clear hb5 H1b H1c H2 Hb5 Hb6 hB2
 go_wp2_with fail
 have H3 := Lib.hid (row2_in w5 (iv 2) nl)
 have Hbb : Hid (Below w5.heap.size w5 ((w5.alloc (.cells #[.int .i64 (iv 2).k, .int .i64 (iv 2).n, .string (iv 2).s, .int .i64 0, .int .i64 0, .string { data := #[] }] 39)).alloc (.cells #[.slice (some ⟨b1, 0, none⟩) 2 2, .slice (some ⟨b2, 0, none⟩) 2 2, .slice (some ⟨w5.heap.size, 0, none⟩) 2 2] 47))) := Lib.hid (below_two _ _ _)
 have H3e := Lib.hid (H3.out.after (below_one _ (.cells #[.slice (some ⟨b1, 0, none⟩) 2 2, .slice (some ⟨b2, 0, none⟩) 2 2, .slice (some ⟨w5.heap.size, 0, none⟩) 2 2] 47)))
 have hsl : SlG ((w5.alloc (.cells #[.int .i64 (iv 2).k, .int .i64 (iv 2).n, .string (iv 2).s, .int .i64 0, .int .i64 0, .string { data := #[] }] 39)).alloc (.cells #[.slice (some ⟨b1, 0, none⟩) 2 2, .slice (some ⟨b2, 0, none⟩) 2 2, .slice (some ⟨w5.heap.size, 0, none⟩) 2 2] 47)) (some ⟨w5.heap.size + 1, 0, none⟩) 1 rdH [⟨some ⟨b1, 0, none⟩, 2, 2, [iv 1, iv 5]⟩, ⟨some ⟨b2, 0, none⟩, 2, 2, [iv 1, iv 7]⟩, ⟨some ⟨w5.heap.size, 0, none⟩, 2, 2, [iv 2, nl]⟩] := SlG.newAt (by simp) hOk.len _ rfl
 refine (rofB_c (some ⟨w5.heap.size + 1, 0, none⟩) 3 3 [⟨some ⟨b1, 0, none⟩, 2, 2, [iv 1, iv 5]⟩, ⟨some ⟨b2, 0, none⟩, 2, 2, [iv 1, iv 7]⟩, ⟨some ⟨w5.heap.size, 0, none⟩, 2, 2, [iv 2, nl]⟩] _ rfl (by omega) hsl (fun h hh => by
  simp only [List.mem_cons, List.not_mem_nil, or_false] at hh
  rcases hh with rfl | rfl | rfl
  · exact ct2_in (H1d.out.after Hbb.out) (okv_iv (by decide)) (okv_iv (by decide))
  · exact ct2_in (H2d.out.after Hbb.out) (okv_iv (by decide)) (okv_iv (by decide))
  · exact ct2_in H3e.out (okv_iv (by decide)) okv_nl)).mono ?_
 rintro e w6 ⟨A, n, c, cs, rfl, hb6, hB6, hp6⟩
 have HF : Hid (Below w.heap.size w w6 ∧ BgIn w6 A n cs ∧ pl cs = someB) := Lib.hid ⟨below_via (below_via Hb7.out Hbb.out) hb6, hB6, hp6.trans someR⟩
 clear hb6 hB6 hp6 hsl
 go_wp2_with fail
 go_ret
 exact ⟨_, _, _, _, rfl, HF.out⟩
def fixV (p g : Nat) : Vq := ⟨emp, emp, emp, 0, 0, none, 0, 0, [], some ⟨p, 0, none⟩, 1, 1, [0], true, some ⟨g, 0, none⟩, 2, 2⟩
structure FixG (w : World) (b p g : Nat) : Prop where
 bq : Bq w b (fixV p g)
 lt : b < w.heap.size
 vin : Vq.In w (fixV p g)
 ags : SlG w (some ⟨g, 0, none⟩) 2 rdA [(0, 0), (1, 1)]
 gl : Gl w
theorem FixG.after {w w' : World} {b p g : Nat} (h : FixG w b p g) (hb : Below w.heap.size w w') : FixG w' b p g := ⟨h.bq.below hb h.lt, Nat.lt_of_lt_of_le h.lt hb.size, h.vin.after hb, h.ags.after hb, h.gl.after hb⟩
def fixO : Bg := [([iv 1, iv 2, iv 12], 1), ([iv 2, iv 1, nl], 1)]
theorem fixG_rows : rowsF [0] true [(0, 0), (1, 1)] someB = (fixO, 0) := by kernel_rfl
theorem fixG_neg : rowsF [0] true [(0, 0), (1, 1)] (negR someB) = ([], 1) := by kernel_rfl
theorem fixG_len : (negR someB).length = 3 := by kernel_rfl
theorem fixG_max : aggF 3 1 someB = (iv 7, 0) := by kernel_rfl
theorem fixG_sum : aggF 1 0 [([iv 9223372036854775807], 2)] = (nl, 110) := by kernel_rfl
theorem fixG_text : bagTR fixO = [40, 49, 44, 32, 50, 44, 32, 49, 50, 41, 32, 40, 50, 44, 32, 49, 44, 32, 110, 117, 108, 108, 41] := by kernel_rfl
theorem below_three3 (w : World) (o o' o'' : Obj) : Below w.heap.size w (((w.alloc o).alloc o').alloc o'') := below_via (below_two w o o') (below_one _ o'')
theorem fixG_sizes {os : List Ct} {w : World} {A : Option Addr} {n : Nat} (h : pl os = fixO) (hB : BgIn w A n os) : ∀ c ∈ os, c.h.n ≤ 200 ∧ ∀ x ∈ c.h.xs, x.s.size ≤ 2000 := fun c hc => by
 have h1 : (c.h.xs, c.N) ∈ fixO := by rw [← h]; exact pl_mem hc
 have h2 : c.h.xs.length ≤ 200 ∧ ∀ x ∈ c.h.xs, x.s.size ≤ 2000 := by
  simp only [fixO, List.mem_cons, List.not_mem_nil, or_false, Prod.mk.injEq] at h1
  rcases h1 with ⟨h1, _⟩ | ⟨h1, _⟩
  · rw [h1]
    refine ⟨by decide, fun x hx => ?_⟩
    simp only [List.mem_cons, List.not_mem_nil, or_false] at hx
    rcases hx with rfl | rfl | rfl <;> exact Nat.zero_le _
  · rw [h1]
    refine ⟨by decide, fun x hx => ?_⟩
    simp only [List.mem_cons, List.not_mem_nil, or_false] at hx
    rcases hx with rfl | rfl | rfl <;> exact Nat.zero_le _
 exact ⟨by rw [← (hB.each c hc).hd.len]; exact h2.1, h2.2⟩
theorem fixG_c {w : World} {b p g : Nat} (h : FixG w b p g) (A : Option Addr) (n c : Nat) (cs : List Ct) (hB : BgIn w A n cs) (hn : n ≤ 10000) :
 Calls Tryz.prog 10 #[.agg #[.string emp, .string emp, .string emp, .int .i64 0, .int .i64 0, .slice none 0 0, .slice (some ⟨p, 0, none⟩) 1 1, .bool true, .slice (some ⟨g, 0, none⟩) 2 2], .slice A n c] w fun e w' => ∃ A' n' c' os er, e = .returned (.tuple #[.slice A' n' c', .int .i64 er]) ∧ GrpSaid w A' n' os er (rowsF [0] true [(0, 0), (1, 1)] (pl cs)) w' :=
 rowsG_c (fixV p g) [(0, 0), (1, 1)] A n c cs w h.vin h.ags rfl (.inl (by show 2 ≤ _; omega)) hB hn h.gl
set_option maxHeartbeats 8000000 in
theorem gfixed_c (w : World) (hG : Gl w) : Calls Tryz.prog 9 #[] w fun e w' => e = .returned (.bool true) ∧ Below w.heap.size w w' := by
 have HGl := Lib.hid hG
 clear hG
 go_enter Tryz.func9, Tryz.ntmps9
 go_wp2_with fail
 obtain ⟨W, hW⟩ : ∃ W, ((w.alloc (.cells #[.int .i64 0] 3)).alloc (.cells #[.int .i64 0, .int .i64 0, .int .i64 1, .int .i64 1] 32)).alloc (.cells #[.string { data := #[] }, .string { data := #[] }, .string { data := #[] }, .int .i64 0, .int .i64 0, .slice none 0 0, .slice (some ⟨w.heap.size, 0, none⟩) 1 1, .bool true, .slice (some ⟨w.heap.size + 1, 0, none⟩) 2 2] 28) = W := ⟨_, rfl⟩
 have HF : Hid (FixG W (w.heap.size + 1 + 1) w.heap.size (w.heap.size + 1)) := Lib.hid (by
  rw [← hW]
  have hb3 := below_three3 w (.cells #[.int .i64 0] 3) (.cells #[.int .i64 0, .int .i64 0, .int .i64 1, .int .i64 1] 32) (.cells #[.string { data := #[] }, .string { data := #[] }, .string { data := #[] }, .int .i64 0, .int .i64 0, .slice none 0 0, .slice (some ⟨w.heap.size, 0, none⟩) 1 1, .bool true, .slice (some ⟨w.heap.size + 1, 0, none⟩) 2 2] 28)
  have h1 := Bq.new ((w.alloc (.cells #[.int .i64 0] 3)).alloc (.cells #[.int .i64 0, .int .i64 0, .int .i64 1, .int .i64 1] 32)) (fixV w.heap.size (w.heap.size + 1))
  rw [show ((w.alloc (.cells #[.int .i64 0] 3)).alloc (.cells #[.int .i64 0, .int .i64 0, .int .i64 1, .int .i64 1] 32)).heap.size = w.heap.size + 1 + 1 by simp] at h1
  have h2 : SlG (w.alloc (.cells #[.int .i64 0] 3)) (some ⟨w.heap.size, 0, none⟩) 1 rdI [0] := SlG.new (rd := rdI) (fun _ => rfl) [0] rfl
  have h3 : SlG ((w.alloc (.cells #[.int .i64 0] 3)).alloc (.cells #[.int .i64 0, .int .i64 0, .int .i64 1, .int .i64 1] 32)) (some ⟨w.heap.size + 1, 0, none⟩) 2 rdA [(0, 0), (1, 1)] := SlG.newAt (rd := rdA) (by simp) (fun _ => rfl) [(0, 0), (1, 1)] rfl
  exact ⟨h1, by simp, ⟨rfl, Nat.zero_le _, trivial, nofun, rfl, by show 1 ≤ maxLen; unfold maxLen; omega, (h2.after (below_one _ _)).after (below_one _ _)⟩, h3.after (below_one _ _), HGl.out.after hb3⟩)
 have HbwW : Hid (Below w.heap.size w W) := Lib.hid (by rw [← hW]; exact below_three3 w _ _ _)
 rw [hW]
 obtain ⟨p, hp⟩ : ∃ p, w.heap.size = p := ⟨_, rfl⟩
 have Hp := Lib.hid hp
 rw [hp] at HF ⊢
 clear hW hp HGl
 obtain ⟨g, hg⟩ : ∃ g, p + 1 = g := ⟨_, rfl⟩
 rw [hg] at HF ⊢
 obtain ⟨b, hb⟩ : ∃ b, g + 1 = b := ⟨_, rfl⟩
 rw [hb] at HF ⊢
 clear hg hb
 obtain ⟨c0, c1, c2, c3, c4, c5, c6, c7, c8⟩ := HF.out.bq.allG
 try simp only [fixV] at c0 c1 c2 c3 c4 c5 c6 c7 c8
 have lb := HF.out.lt
 have HC : Hid (Below W.heap.size W W) := Lib.hid (Below.refl _ _)
 have HS : Hid (∀ w9, Below W.heap.size W w9 → FixG w9 b p g) := Lib.hid fun w9 h => HF.out.after h
 have HK : Hid (∀ w9, Below W.heap.size W w9 → (w9.cell? ⟨b, 0, none⟩ = some (.string emp) ∧ w9.cell? ⟨b, 1, none⟩ = some (.string emp) ∧ w9.cell? ⟨b, 2, none⟩ = some (.string emp) ∧ w9.cell? ⟨b, 3, none⟩ = some (.int .i64 0) ∧ w9.cell? ⟨b, 4, none⟩ = some (.int .i64 0) ∧ w9.cell? ⟨b, 5, none⟩ = some (.slice none 0 0) ∧ w9.cell? ⟨b, 6, none⟩ = some (.slice (some ⟨p, 0, none⟩) 1 1) ∧ w9.cell? ⟨b, 7, none⟩ = some (.bool true) ∧ w9.cell? ⟨b, 8, none⟩ = some (.slice (some ⟨g, 0, none⟩) 2 2))) := Lib.hid fun w9 h => (HF.out.after h).bq.allG
 go_region_held3 (fun w9 => w9.cell? ⟨b, 0, none⟩ = some (.string emp) ∧ w9.cell? ⟨b, 1, none⟩ = some (.string emp) ∧ w9.cell? ⟨b, 2, none⟩ = some (.string emp) ∧ w9.cell? ⟨b, 3, none⟩ = some (.int .i64 0) ∧ w9.cell? ⟨b, 4, none⟩ = some (.int .i64 0) ∧ w9.cell? ⟨b, 5, none⟩ = some (.slice none 0 0) ∧ w9.cell? ⟨b, 6, none⟩ = some (.slice (some ⟨p, 0, none⟩) 1 1) ∧ w9.cell? ⟨b, 7, none⟩ = some (.bool true) ∧ w9.cell? ⟨b, 8, none⟩ = some (.slice (some ⟨g, 0, none⟩) 2 2)) (first | with_reducible exact HK.out _ HC.out | with_reducible exact HK.out _ HC.out.drew | go_keep)
  (first
    | (go_at_call 23
       refine (some_c _).mono ?_
       rintro en w5 ⟨A1, n1, c1', cs1, rfl, hb5, hB5, hp5⟩
       replace HC : Hid (Below W.heap.size W w5) := Lib.hid (by first | exact below_via HC.out hb5 | exact below_via HC.out.drew hb5)
       obtain rfl : n1 = 3 := by have h1 := hB5.len; rw [← pl_len, hp5] at h1; exact h1.symm
       have HB1 := Lib.hid hB5
       have X1 := Lib.hid hp5
       clear hb5 hB5 hp5)
    | (go_at_call 10
       refine (fixG_c (HS.out _ (by first | exact HC.out | exact HC.out.drew)) A1 3 c1' cs1 (by first | exact HB1.out | exact HB1.out.after (Below.refl _ _).drew) (by omega)).mono ?_
       rintro en w6 ⟨A2, n2, c2', os, er, rfl, hS6⟩
       have hb6 := hS6.below
       replace HC : Hid (Below W.heap.size W w6) := Lib.hid (by first | exact below_via HC.out hb6 | exact below_via HC.out.drew hb6)
       have he6 := hS6.er2
       have hp6 := hS6.said
       rw [X1.out, fixG_rows] at he6 hp6
       subst he6
       have X2 : Hid (pl os = fixO) := Lib.hid hp6
       obtain rfl : n2 = 2 := by have h1 := hS6.bag.len; rw [← pl_len, hp6] at h1; exact h1.symm
       have HB2 := Lib.hid hS6.bag
       clear hS6 hb6 hp6 HB1 X1))
 rename_i hHeld
 clear hHeld c0 c1 c2 c3 c4 c5 c6 c7 c8
 go_wp2_with fail
 refine (some_c _).mono ?_
 rintro en w7 ⟨A3, n3, c3, cs3, rfl, hb7, hB7, hp7⟩
 obtain rfl : n3 = 3 := by have h1 := hB7.len; rw [← pl_len, hp7] at h1; exact h1.symm
 have HC7 := Lib.hid (below_via HC.out hb7)
 have HB27 := Lib.hid (HB2.out.after hb7)
 have HB7 := Lib.hid hB7
 have X7 := Lib.hid hp7
 clear hb7 hB7 hp7 HC HB2
 go_wp2_with fail
 refine (agg_c A3 3 c3 cs3 3 1 w7 HB7.out (by omega)).mono ?_
 rw [X7.out, fixG_max]
 rintro en w8 ⟨rfl, hb8⟩
 have HC8 := Lib.hid (below_via HC7.out hb8)
 have HB28 := Lib.hid (HB27.out.after hb8)
 clear hb8 HC7 HB27 HB7 X7
 go_wp2_with fail
 have HX8 : Hid (Bf (w8.alloc (.cells #[.int .i64 (iv 7).k, .int .i64 (iv 7).n, .string (iv 7).s] 39)) w8.heap.size #[.int .i64 (iv 7).k, .int .i64 (iv 7).n, .string (iv 7).s] 39) := Lib.hid (Bf.new _ _ _)
 have HC9 := Lib.hid (below_via HC8.out (below_one w8 (.cells #[.int .i64 (iv 7).k, .int .i64 (iv 7).n, .string (iv 7).s] 39)))
 have HB29 := Lib.hid (HB28.out.after (below_one w8 (.cells #[.int .i64 (iv 7).k, .int .i64 (iv 7).n, .string (iv 7).s] 39)))
 refine (mostG_c _).mono ?_
 rintro en w9 ⟨rfl, hb9⟩
 have HX9 := Lib.hid (HX8.out.after hb9 HX8.out.lt)
 have HCa := Lib.hid (below_via HC9.out hb9)
 have HB2a := Lib.hid (HB29.out.after hb9)
 obtain ⟨xb, hxb⟩ : ∃ xb, w8.heap.size = xb := ⟨_, rfl⟩
 rw [hxb] at HX9 ⊢
 clear hb9 HC9 HB29 HX8 HC8 HB28 hxb
 go_wp2_with fail
 refine (rintG_c 9223372036854775807 _).mono ?_
 rintro en w10 ⟨rfl, hb10⟩
 have HX10 := Lib.hid (HX9.out.after hb10 HX9.out.lt)
 have HCb := Lib.hid (below_via HCa.out hb10)
 have HB2b := Lib.hid (HB2a.out.after hb10)
 clear hb10 HCa HB2a HX9
 have Hbb : Hid (Below w10.heap.size w10 ((w10.alloc (.cells #[.int .i64 (iv 9223372036854775807).k, .int .i64 (iv 9223372036854775807).n, .string (iv 9223372036854775807).s] 39)).alloc (.cells #[.slice (some ⟨w10.heap.size, 0, none⟩) 1 1, .int .i64 2] 49))) := Lib.hid (below_two _ _ _)
 have Hbag : Hid (BgIn ((w10.alloc (.cells #[.int .i64 (iv 9223372036854775807).k, .int .i64 (iv 9223372036854775807).n, .string (iv 9223372036854775807).s] 39)).alloc (.cells #[.slice (some ⟨w10.heap.size, 0, none⟩) 1 1, .int .i64 2] 49)) (some ⟨w10.heap.size + 1, 0, none⟩) 1 [⟨⟨some ⟨w10.heap.size, 0, none⟩, 1, 1, [iv 9223372036854775807]⟩, 2⟩]) := Lib.hid (by
  have h1 : Hd.In (w10.alloc (.cells #[.int .i64 (iv 9223372036854775807).k, .int .i64 (iv 9223372036854775807).n, .string (iv 9223372036854775807).s] 39)) ⟨some ⟨w10.heap.size, 0, none⟩, 1, 1, [iv 9223372036854775807]⟩ := ⟨rfl, by show 1 ≤ maxLen; unfold maxLen; omega, (SlG.new vOk.len [iv 9223372036854775807] rfl).sl⟩
  refine ⟨rfl, by unfold maxLen; omega, SlG.newAt (by simp) cOk.len [⟨⟨some ⟨w10.heap.size, 0, none⟩, 1, 1, [iv 9223372036854775807]⟩, 2⟩] rfl, fun z hz => ?_⟩
  rw [List.mem_singleton] at hz
  subst hz
  refine ⟨h1.after (below_one _ _), fun v hv => ?_, fun v hv => ?_, ⟨by show (-9223372036854775808 : Int) ≤ 2; decide, by show (2 : Int) ≤ 9223372036854775807; decide⟩, Nat.le_refl _⟩
  · rw [List.mem_singleton] at hv; subst hv; exact Nat.zero_le _
  · rw [List.mem_singleton] at hv; subst hv; exact ⟨by decide, by decide⟩)
 go_wp2_with fail
 refine (agg_c (some ⟨w10.heap.size + 1, 0, none⟩) 1 1 [⟨⟨some ⟨w10.heap.size, 0, none⟩, 1, 1, [iv 9223372036854775807]⟩, 2⟩] 1 0 _ Hbag.out (by omega)).mono ?_
 rw [show pl [(⟨⟨some ⟨w10.heap.size, 0, none⟩, 1, 1, [iv 9223372036854775807]⟩, 2⟩ : Ct)] = [([iv 9223372036854775807], 2)] from rfl, fixG_sum]
 rintro en w11 ⟨rfl, hb11⟩
 have HX11 := Lib.hid ((HX10.out.after Hbb.out HX10.out.lt).after hb11 (Nat.lt_of_lt_of_le HX10.out.lt Hbb.out.size))
 have HCc := Lib.hid (below_via (below_via HCb.out Hbb.out) hb11)
 have HB2c := Lib.hid ((HB2b.out.after Hbb.out).after hb11)
 clear hb11 HX10 HCb HB2b Hbb Hbag
 have Hbn : Hid (Below w11.heap.size w11 (w11.alloc (.cells #[.int .i64 nl.k, .int .i64 nl.n, .string nl.s] 39))) := Lib.hid (below_one _ _)
 have HXd := Lib.hid (HX11.out.after Hbn.out HX11.out.lt)
 have HB2d := Lib.hid (HB2c.out.after Hbn.out)
 have HCd := Lib.hid (below_via HCc.out Hbn.out)
 clear HX11 HCc HB2c Hbn
 go_wp2_with fail
 obtain ⟨W4, hW4⟩ : ∃ W4, w11.alloc (.cells #[.int .i64 nl.k, .int .i64 nl.n, .string nl.s] 39) = W4 := ⟨_, rfl⟩
 rw [hW4] at HXd HB2d HCd ⊢
 have HW4 := Lib.hid hW4
 obtain ⟨c0, c1, c2, c3, c4, c5, c6, c7, c8⟩ := HK.out _ HCd.out
 have lb4 : b < W4.heap.size := Nat.lt_of_lt_of_le lb HCd.out.size
 clear lb
 clear hW4 HW4
 have HCw := Lib.hid HCd.out
 have HE : Hid (Below W4.heap.size W4 W4) := Lib.hid (Below.refl _ _)
 have HCE : Hid (∀ u, Below W4.heap.size W4 u → Below W.heap.size W u) := Lib.hid fun u h => below_via HCw.out h
 clear HCd
 go_region_held3 (fun w9 => w9.cell? ⟨b, 0, none⟩ = some (.string emp) ∧ w9.cell? ⟨b, 1, none⟩ = some (.string emp) ∧ w9.cell? ⟨b, 2, none⟩ = some (.string emp) ∧ w9.cell? ⟨b, 3, none⟩ = some (.int .i64 0) ∧ w9.cell? ⟨b, 4, none⟩ = some (.int .i64 0) ∧ w9.cell? ⟨b, 5, none⟩ = some (.slice none 0 0) ∧ w9.cell? ⟨b, 6, none⟩ = some (.slice (some ⟨p, 0, none⟩) 1 1) ∧ w9.cell? ⟨b, 7, none⟩ = some (.bool true) ∧ w9.cell? ⟨b, 8, none⟩ = some (.slice (some ⟨g, 0, none⟩) 2 2)) (first | with_reducible exact HK.out _ (HCE.out _ HE.out) | with_reducible exact HK.out _ (HCE.out _ HE.out.drew) | go_keep)
  (first
    | (go_at_call 23
       refine (some_c _).mono ?_
       rintro en w5 ⟨A5, n5, c5', cs5, rfl, hb5, hB5, hp5⟩
       replace HE : Hid (Below W4.heap.size W4 w5) := Lib.hid (by first | exact below_via HE.out hb5 | exact below_via HE.out.drew hb5)
       obtain rfl : n5 = 3 := by have h1 := hB5.len; rw [← pl_len, hp5] at h1; exact h1.symm
       have HB5 := Lib.hid hB5
       have X5 := Lib.hid hp5
       clear hb5 hB5 hp5)
    | (go_at_call 26
       refine (rnegB_c A5 3 c5' cs5 _ (by first | exact HB5.out | exact HB5.out.after (Below.refl _ _).drew) (by omega)).mono ?_
       rintro en w6 ⟨A6, n6, c6', cs6, rfl, hb6, hB6, hp6⟩
       replace HE : Hid (Below W4.heap.size W4 w6) := Lib.hid (by first | exact below_via HE.out hb6 | exact below_via HE.out.drew hb6)
       rw [X5.out] at hp6
       obtain rfl : n6 = 3 := by have h1 := hB6.len; rw [← pl_len, hp6, fixG_len] at h1; exact h1.symm
       have HB6 := Lib.hid hB6
       have X6 := Lib.hid hp6
       clear hb6 hB6 hp6)
    | (go_at_call 10
       refine (fixG_c (HS.out _ (by first | exact HCE.out _ HE.out | exact HCE.out _ HE.out.drew)) A6 3 c6' cs6 (by first | exact HB6.out | exact HB6.out.after (Below.refl _ _).drew) (by omega)).mono ?_
       rintro en w8 ⟨A8, n8, c8', os8, er8, rfl, hS8⟩
       have hb8 := hS8.below
       replace HE : Hid (Below W4.heap.size W4 w8) := Lib.hid (by first | exact below_via HE.out hb8 | exact below_via HE.out.drew hb8)
       have he8 := hS8.er2
       rw [X6.out, fixG_neg] at he8
       subst he8
       clear hS8 hb8))
 rename_i hHeld
 clear hHeld c0 c1 c2 c3 c4 c5 c6 c7 c8 HK HS lb4
 have HB2e := Lib.hid (HB2d.out.after HE.out)
 have HXe := Lib.hid (HXd.out.after HE.out HXd.out.lt)
 have HBe := Lib.hid (below_via HbwW.out (HCE.out _ HE.out))
 have lx := HXe.out.lt
 have HS2 : Hid (∀ u, Below w8.heap.size w8 u → u.cell? ⟨xb, 0, none⟩ = some (.int .i64 (iv 7).k) ∧ u.cell? ⟨xb, 1, none⟩ = some (.int .i64 (iv 7).n) ∧ u.cell? ⟨xb, 2, none⟩ = some (.string (iv 7).s)) := Lib.hid fun u h => by
  have := HXe.out.after h HXe.out.lt
  exact ⟨this.cell 0, this.cell 1, this.cell 2⟩
 have HG : Hid (Below w8.heap.size w8 w8) := Lib.hid (Below.refl _ _)
 obtain ⟨x0, x1, x2⟩ := HS2.out _ HG.out
 have e7 : (⟨(iv 7).k, (iv 7).n, (iv 7).s⟩ : Val).eq ⟨(iv 7).k, (iv 7).n, (iv 7).s⟩ = true := Val.eq_self _
 go_wp2_with fail
 go_region_held3 (fun w9 => w9.cell? ⟨xb, 0, none⟩ = some (.int .i64 (iv 7).k) ∧ w9.cell? ⟨xb, 1, none⟩ = some (.int .i64 (iv 7).n) ∧ w9.cell? ⟨xb, 2, none⟩ = some (.string (iv 7).s)) (first | with_reducible exact HS2.out _ HG.out | with_reducible exact HS2.out _ HG.out.drew | go_keep)
  (first
    | (go_at_call 27
       refine (rtextB_c A2 2 c2' os _ (by first | exact HB2e.out | exact HB2e.out.after (Below.refl _ _).drew) (by omega) (fixG_sizes X2.out HB2e.out)).mono ?_
       rw [X2.out, fixG_text]
       rintro en wt ⟨rfl, hbt⟩
       replace HG : Hid (Below w8.heap.size w8 wt) := Lib.hid (by first | exact below_via HG.out hbt | exact below_via HG.out.drew hbt)
       clear hbt)
    | (go_at_call 24
       refine (rintG_c 7 _).mono ?_
       rintro en wu ⟨rfl, hbu⟩
       replace HG : Hid (Below w8.heap.size w8 wu) := Lib.hid (by first | exact below_via HG.out hbu | exact below_via HG.out.drew hbu)
       clear hbu))
 have HF2 := Lib.hid (below_via HBe.out HG.out)
 clear HG HS2
 all_goals
  go_wp2_with fail
  go_ret
  exact ⟨rfl, HF2.out⟩
end Go.Proofs.YtldaoepemofhlaaGreatDoor
namespace Go.Proofs.YtldaoepemofhlaaGreatDoor
open Go Go.RowKit
set_option maxRecDepth 100000
attribute [local go_sem ↓] Go.wp_at_zero Go.wp_at_succ
set_option maxHeartbeats 2000000 in
theorem rright_c (A : Option Addr) (n c : Nat) (cs : List Ct) (w : World) (hB : BgIn w A n cs) (hn : n ≤ 100000) :
 Calls Tryz.prog 15 #[.slice A n c] w fun e w' => e = .returned (.int .i64 (refR (pl cs))) ∧ Below w.heap.size w w' := by
 have HB := Lib.hid hB
 clear hB
 obtain ⟨R, hR⟩ : ∃ R, refR (pl cs) = R := ⟨_, rfl⟩
 have HR := Lib.hid hR
 rw [hR]
 clear hR
 go_enter Tryz.func15, Tryz.ntmps15
 go_wp2_with fail
 refine (rmayBag_c A n c cs _ HB.out).mono ?_
 rintro e W ⟨rfl, hb⟩
 cases hm : mayBag (pl cs)
 · have hr : R = 1 := by rw [← HR.out]; unfold refR; rw [hm]; rfl
   subst hr
   go_wp2_with fail
   go_ret
   exact ⟨rfl, hb⟩
 · have Hm := Lib.hid hm
   have Hb := Lib.hid hb
   clear hm hb
   go_wp2_with fail
   go_loopw [3] (fun q wr => ∃ k : Nat, k ≤ n ∧ q = .int .i64 k ∧ W = wr ∧ Hid (((pl cs).take k).any (fun x => decide (x.2 < 0)) = false)) (fun q _ => n - (intOf q).toNat)
   case atStart => exact ⟨0, Nat.zero_le _, rfl, rfl, Lib.hid rfl⟩
   case round =>
    obtain ⟨k, hk, rfl, rfl, hany⟩ := hrel
    by_cases hlt : k < n
    · have HBr := HB.out.after Hb.out
      obtain ⟨b, off, rfl⟩ := HBr.sl.some2 (k := k) (by rw [HBr.len]; exact hlt)
      obtain ⟨x, hx⟩ : ∃ x, cs[k]? = some x := ⟨_, List.getElem?_eq_getElem (by rw [HBr.len]; exact hlt)⟩
      obtain ⟨l0, d0, d1⟩ := HBr.sl.cell2 hx
      have Hany1 := Lib.hid (any_more (pl_at hx))
      have Hany2 : Hid (x.N < 0 → (pl cs).any (fun x => decide (x.2 < 0)) = true) := Lib.hid fun h => List.any_eq_true.2 ⟨(x.h.xs, x.N), List.mem_of_getElem? (pl_at hx), decide_eq_true h⟩
      clear hx HBr
      obtain ⟨⟨xA, xn, xc, xs⟩, N⟩ := x
      have hgo : (k : Int) < n := by omega
      try simp only at d0 d1
      by_cases hneg : N < 0
      · have hr : R = 1 := by
         rw [← HR.out]
         unfold refR
         rw [Hm.out, if_pos rfl, if_pos (Hany2.out hneg)]
        subst hr
        go_wp2_with fail
        go_ret
        exact ⟨rfl, Hb.out⟩
      · have hneg3 : 0 ≤ N := by omega
        have HA1 : Hid (((pl cs).take (k + 1)).any (fun x => decide (x.2 < 0)) = false) := Lib.hid (by rw [Hany1.out, hany.out, decide_eq_false hneg]; rfl)
        clear Hany1 Hany2
        go_wp2_with fail
        go_roundw
        case rel => exact ⟨k + 1, by omega, by go_num, trivial, HA1⟩
        case measure => simp [intOf]; omega
    · obtain rfl : k = n := by omega
      have htk : (pl cs).take k = pl cs := List.take_of_length_le (by rw [pl_len, HB.out.len]; exact Nat.le_refl _)
      have ha := hany.out
      rw [htk] at ha
      have Ha := Lib.hid ha
      have HN : Hid (∀ x ∈ pl cs, 0 ≤ x.2) := Lib.hid fun x hx => by
       rcases Int.lt_or_le x.2 0 with h1 | h1
       · have : (pl cs).any (fun x => decide (x.2 < 0)) = true := List.any_eq_true.2 ⟨x, hx, decide_eq_true h1⟩
         rw [Ha.out] at this
         cases this
       · exact h1
      clear ha htk hany
      go_wp2_with fail
      go_loopw [4, 5] (fun v q wr => ∃ j : Nat, j ≤ k ∧ q = .int .i64 j ∧ v = .int .i64 (cntB ((pl cs).take j)) ∧ W = wr ∧ Hid (cntB ((pl cs).take j) ≤ 100000)) (fun _ q _ => k - (intOf q).toNat)
      case atStart => exact ⟨0, Nat.zero_le _, rfl, rfl, rfl, Lib.hid (by show (0 : Int) ≤ _; decide)⟩
      case round =>
       obtain ⟨j, hj, rfl, rfl, rfl, hle⟩ := hrel
       by_cases hlt : j < k
       · have HBr := HB.out.after Hb.out
         obtain ⟨b, off, rfl⟩ := HBr.sl.some2 (k := j) (by rw [HBr.len]; exact hlt)
         obtain ⟨x, hx⟩ : ∃ x, cs[j]? = some x := ⟨_, List.getElem?_eq_getElem (by rw [HBr.len]; exact hlt)⟩
         obtain ⟨l0, d0, d1⟩ := HBr.sl.cell2 hx
         have hmore : cntB ((pl cs).take (j + 1)) = cntB ((pl cs).take j) + x.N := cntB_more (pl_at hx)
         have Hmore := Lib.hid hmore
         have h0 : 0 ≤ cntB ((pl cs).take j) := cntB_nonneg fun x hx => HN.out x (List.mem_of_mem_take hx)
         have h1 : 0 ≤ x.N := HN.out (x.h.xs, x.N) (List.mem_of_getElem? (pl_at hx))
         have h2 : x.N ≤ 1000000000 := (may_row Hm.out (List.mem_of_getElem? (pl_at hx))).2.2.2
         have h3 := hle.out
         have Hge : Hid (cntB ((pl cs).take (j + 1)) ≤ cntB (pl cs)) := Lib.hid (by
          have h4 := cntB_app ((pl cs).take (j + 1)) ((pl cs).drop (j + 1))
          rw [List.take_append_drop] at h4
          have h5 := cntB_nonneg (b := (pl cs).drop (j + 1)) fun x hx => HN.out x (List.mem_of_mem_drop hx)
          omega)
         clear hx HBr hmore
         obtain ⟨⟨xA, xn, xc, xs⟩, N⟩ := x
         have hgo : (j : Int) < k := by omega
         obtain ⟨T, hT⟩ : ∃ T, cntB ((pl cs).take j) = T := ⟨_, rfl⟩
         rw [hT] at h0 h3 ⊢
         try simp only at d0 d1 h1 h2
         have hw : wrap64 (T + N) = T + N := by unfold wrap64; omega
         have HT1 : Hid (cntB ((pl cs).take (j + 1)) = T + N) := Lib.hid (by have := Hmore.out; rw [hT] at this; exact this)
         clear hT h0 h3 Hmore
         by_cases hgt : 100000 < T + N
         · have hr : R = 100 := by
            rw [← HR.out]
            unfold refR
            have := Hge.out
            rw [HT1.out] at this
            rw [Hm.out, if_pos rfl, if_neg (by rw [Ha.out]; exact Bool.false_ne_true), if_pos (by omega)]
           subst hr
           go_wp2_with fail
           go_ret
           exact ⟨rfl, Hb.out⟩
         · have hgt2 : T + N ≤ 100000 := by omega
           have HL : Hid (cntB ((pl cs).take (j + 1)) ≤ 100000) := Lib.hid (by rw [HT1.out]; exact hgt2)
           go_wp2_with fail
           go_roundw
           case rel => exact ⟨j + 1, by omega, by go_num, by rw [HT1.out, hw], trivial, HL⟩
           case measure => simp [intOf]; omega
       · obtain rfl : j = k := by omega
         have hr : R = 0 := by
          rw [← HR.out]
          unfold refR
          have := hle.out
          rw [show (pl cs).take j = pl cs from List.take_of_length_le (by rw [pl_len, HB.out.len]; exact Nat.le_refl _)] at this
          rw [Hm.out, if_pos rfl, if_neg (by rw [Ha.out]; exact Bool.false_ne_true), if_neg (by omega)]
         subst hr
         go_wp2_with fail
         go_ret
         exact ⟨rfl, Hb.out⟩
end Go.Proofs.YtldaoepemofhlaaGreatDoor
