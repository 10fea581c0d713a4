/-
  Part 5 of 9 of what the proof leans on: each part below says what it proves, and of what; no condition besides.
-/
import Derived.Test.YtjgpmnffagdhlaaGreatDoorQ04
import Derived.Deep.DeepCutAuto
import Derived.Deep.RegionHeld2
set_option linter.unusedVariables false
set_option linter.unusedSimpArgs false
namespace Go.Proofs.YtjgpmnffagdhlaaGreatDoor
open Go Go.RowKit
set_option maxRecDepth 100000
def NumS (b : Nat) (w : World) (o : Option (Int × List Tk)) (e : Ending) (w' : World) : Prop := match o with
 | none => e = .panicked (boom 70) ∧ Apb b w w'
 | some q => e = .returned (.int .i64 q.1) ∧ Rq w' b q.2 ∧ Apb b w w'
theorem aOk7 : ElOk Tryz.prog 30 74 2 16 (.agg #[.int .i64 0, .int .i64 0]) rdAg where
 under := Tryz.underlying30
 info := by kernel_rfl
 zs := rfl
 pos := by decide
 len := fun _ => rfl
 one := fun x u hu => by
  simp [rdAg] at hu
  rcases hu with rfl | rfl <;> rfl
def csP (nm fr wt : ByteArray) (o0 o1 : Int) (wv v : Value) : Array Value := #[.string nm, .string fr, .string wt, .int .i64 o0, .int .i64 o1, wv, v, .bool false, .slice none 0 0]
structure VIP (b V rb Bp : Nat) (cs : Value → Array Value) (w0 w1 w : World) (l : List Tk) (acc : List Int) : Prop where
 rq : Rq w b l
 ap : Apb b w0 w
 sl : ∃ v, Bk w V (cs v) 32 ∧ OwnG w Bp 3 1 rdI v acc
 kp : ∀ k, k < Bp → k ≠ b → k ≠ V → w.heap[k]? = w1.heap[k]?
 bx : Bk w1 rb #[.pointer (some ⟨b, 0, none⟩)] 154
 len : acc.length + l.length ≤ 20000
 b0 : b < w0.heap.size
 rb0 : w0.heap.size ≤ V ∧ b ≠ rb
 c0 : rb < V
 v0 : V < Bp
 sz : Bp ≤ w.heap.size
theorem VIP.keep {b V rb Bp : Nat} {cs : Value → Array Value} {w0 w1 w w' : World} {l l' : List Tk} {acc : List Int} (h : VIP b V rb Bp cs w0 w1 w l acc) (hr : Rq w' b l') (hb : Apb b w w') (hl : l'.length ≤ l.length) : VIP b V rb Bp cs w0 w1 w' l' acc := by
 have h1 := h.b0
 have h2 := h.rb0
 have h3 := h.c0
 have h4 := h.len
 have h5 := h.v0
 have h6 := h.sz
 obtain ⟨v, hv, ho⟩ := h.sl
 exact ⟨hr, h.ap.trans hb, ⟨v, hv.kept hb (by omega), ho.kept hb (by omega)⟩, fun k a1 a2 a3 => (hb.other k (by omega) a2).trans (h.kp k a1 a2 a3), h.bx, by omega, h1, h2, h3, h5, Nat.le_trans h6 hb.size⟩
set_option maxHeartbeats 8000000 in
theorem pick1_c (nm fr wt : ByteArray) (o0 o1 : Int) (wv : Value) (b V rb Bp : Nat) (w0 w1 w : World) (l : List Tk) (acc : List Int) (hi : VIP b V rb Bp (csP nm fr wt o0 o1 wv) w0 w1 w l acc) :
 Calls Tryz.prog 150 #[.pointer (some ⟨V, 0, none⟩), .pointer (some ⟨rb, 0, none⟩)] w fun e w' => ItemS (VIP b V rb Bp (csP nm fr wt o0 o1 wv) w0 w1) (Apb b w0) acc (colP l) e w' := by
 obtain ⟨S, hS⟩ : ∃ S, ItemS (VIP b V rb Bp (csP nm fr wt o0 o1 wv) w0 w1) (Apb b w0) acc (colP l) = S := ⟨_, rfl⟩
 rw [hS]
 have HC := Lib.hid (fun u (hu : Rq u b l) => show Calls Tryz.prog 151 #[.pointer (some ⟨b, 0, none⟩)] u (fun e w' => NumS b u (colP l) e w') from col_cR b l u hu)
 have Hi := Lib.hid hi
 have HS := Lib.hid hS
 obtain ⟨v, hv, ho⟩ := hi.sl
 have HV := Lib.hid hv
 have HO := Lib.hid ho
 have c1 : w.cell? ⟨V, 6, none⟩ = some v := hv.cell 6
 have f1 := hv.thaw 6
 have hlC := hv.lt
 have hbV : b < V := by have := hi.b0; have := hi.rb0; have := hi.c0; omega
 have hw0V : w0.heap.size ≤ V := by have := hi.rb0; have := hi.c0; omega
 have hVB := hi.v0
 have hrV := hi.c0
 have hbr : b ≠ rb := hi.rb0.2
 have hbx : Bk w rb #[.pointer (some ⟨b, 0, none⟩)] 154 := (hi.kp rb (by omega) (by omega) (by omega)).trans hi.bx
 have p0 : w.cell? ⟨rb, 0, none⟩ = some (.pointer (some ⟨b, 0, none⟩)) := hbx.cell 0
 have hlr := hbx.lt
 have hln := hi.len
 have hsz := hi.sz
 obtain ⟨x, hx⟩ : ∃ x : Int, ((colP l).map (·.1)).getD 0 = x := ⟨_, rfl⟩
 have Hx := Lib.hid hx
 clear hi hv ho hS hx hbx
 go_enter Tryz.func150, Tryz.ntmps150
 go_region_law (first
  | (refine step_callO rfl 151 #[.pointer (some ⟨b, 0, none⟩)] (by kernel_rfl) (.int .i64 x) (fun w' => ∃ r, colP l = some (x, r) ∧ Rq w' b r ∧ Apb b w w') ((HC.out _ Hi.out.rq.drew).mono ?_) ?_
     · intro e w1 hn
       cases hq : colP l with
       | none =>
         rw [hq] at hn
         refine .inr ⟨_, hn.1, rfl, ?_⟩
         rw [← HS.out, hq]
         exact ⟨rfl, Hi.out.ap.drew.trans hn.2⟩
       | some q =>
         obtain ⟨y, r⟩ := q
         have e := Hx.out
         rw [hq] at hn e
         have e : y = x := e
         subst e
         exact .inl ⟨hn.1, r, rfl, hn.2.1, (Apb.refl b w).drew.trans hn.2.2⟩
     rintro wx ⟨r, hq1, hr1, hb1⟩
     have Hq1 := Lib.hid hq1
     have Hr1 := Lib.hid hr1
     have Hb1 := Lib.hid hb1
     have HV1 := Lib.hid (HV.out.kept hb1 (by omega))
     have HO1 := Lib.hid (HO.out.kept hb1 (by omega))
     have c1' : wx.cell? ⟨V, 6, none⟩ = some v := HV1.out.cell 6
     have f1' := HV1.out.thaw 6
     have hlC1 := HV1.out.lt
     have hle := col_len hq1
     have hsx := hb1.size
     try simp only at hle
     clear hq1 hr1 hb1)
  | (refine step_appG iOk rfl (.tmp 3) (.tmp 6) rfl Bp v acc [x] rfl (HO1.out.alloc _) (some ⟨wx.heap.size, 0, none⟩) 1 1 rfl rfl (by simp) (SlG.new iOk.len [x] rfl) (by simp [maxLen]; omega) (by simp; omega) (by simp; omega) ?_
     intro g2 cap w2 hv2 hg2
     have hbk2 : ∀ k, k < Bp → w2.heap[k]? = wx.heap[k]? := fun k hk => (hg2.block k (by simp; omega) (fun e => by have := (HO1.out.lt _ e.symm).1; omega)).trans (Below.heap_alloc _ _ k (by omega))
     have Hbk2 := Lib.hid hbk2
     have HO2 := Lib.hid hv2
     have hs2 : wx.heap.size ≤ w2.heap.size := by have := hg2.size; simp at this; omega
     have Hg2 := Lib.hid (((Hi.out.ap.trans Hb1.out).alloc (.cells #[.int .i64 x] 3)).grown hg2 (fun k hk => by have := (HO1.out.lt k hk).1; omega))
     have HV2 : Hid (Bk w2 V (csP nm fr wt o0 o1 wv v) 32) := Lib.hid ((hbk2 V hVB).trans HV1.out)
     have c2' : w2.cell? ⟨V, 6, none⟩ = some v := HV2.out.cell 6
     have f2' := HV2.out.thaw 6
     have hlC2 := HV2.out.lt
     clear hv2 hg2 hbk2))
 all_goals
  go_end0
  rw [← HS.out, Hq1.out]
  refine ⟨rfl, ⟨?_, Hg2.out.own (by omega) 6 _, ⟨_, HV2.out.set 6 _, ?_⟩, ?_, Hi.out.bx, by simp; omega, Hi.out.b0, Hi.out.rb0, Hi.out.c0, Hi.out.v0, by simp [World.setCell]; omega⟩⟩
  · exact (Hr1.out.same fun k hk => Hbk2.out k (by omega)).own (by omega) 6 _
  · have h2 := HO2.out.same (w' := w2.setCell ⟨V, 6, none⟩ (.slice (some ⟨g2, 0, none⟩) (acc.length + [x].length) cap)) (fun k hk => Below.heap_setCell _ _ _ _ (by have := (HO2.out.lt k hk).1; show k ≠ V; omega))
    exact h2
  · intro k a1 a2 a3
    exact (Below.heap_setCell _ _ _ _ (show k ≠ V from a3)).trans ((Hbk2.out k a1).trans ((Hb1.out.other k (by omega) a2).trans (Hi.out.kp k a1 a2 a3)))
def csA (nm fr wt : ByteArray) (o0 o1 : Int) (wv pv v : Value) : Array Value := #[.string nm, .string fr, .string wt, .int .i64 o0, .int .i64 o1, wv, pv, .bool true, v]
structure VIA (b V rb Bp : Nat) (cs : Value → Array Value) (w0 w1 w : World) (l : List Tk) (acc : List Ag) : Prop where
 rq : Rq w b l
 ap : Apb b w0 w
 sl : ∃ v, Bk w V (cs v) 32 ∧ OwnG w Bp 74 2 rdAg v acc
 kp : ∀ k, k < Bp → k ≠ b → k ≠ V → w.heap[k]? = w1.heap[k]?
 bx : Bk w1 rb #[.pointer (some ⟨b, 0, none⟩)] 154
 len : acc.length + l.length ≤ 20000
 b0 : b < w0.heap.size
 rb0 : w0.heap.size ≤ V ∧ b ≠ rb
 c0 : rb < V
 v0 : V < Bp
 sz : Bp ≤ w.heap.size
theorem VIA.keep {b V rb Bp : Nat} {cs : Value → Array Value} {w0 w1 w w' : World} {l l' : List Tk} {acc : List Ag} (h : VIA b V rb Bp cs w0 w1 w l acc) (hr : Rq w' b l') (hb : Apb b w w') (hl : l'.length ≤ l.length) : VIA b V rb Bp cs w0 w1 w' l' acc := by
 have h1 := h.b0
 have h2 := h.rb0
 have h3 := h.c0
 have h4 := h.len
 have h5 := h.v0
 have h6 := h.sz
 obtain ⟨v, hv, ho⟩ := h.sl
 exact ⟨hr, h.ap.trans hb, ⟨v, hv.kept hb (by omega), ho.kept hb (by omega)⟩, fun k a1 a2 a3 => (hb.other k (by omega) a2).trans (h.kp k a1 a2 a3), h.bx, by omega, h1, h2, h3, h5, Nat.le_trans h6 hb.size⟩
set_option maxHeartbeats 8000000 in
theorem agg1_c (nm fr wt : ByteArray) (o0 o1 : Int) (wv pv : Value) (b V rb Bp : Nat) (w0 w1 w : World) (l : List Tk) (acc : List Ag) (hi : VIA b V rb Bp (csA nm fr wt o0 o1 wv pv) w0 w1 w l acc) :
 Calls Tryz.prog 152 #[.pointer (some ⟨V, 0, none⟩), .pointer (some ⟨rb, 0, none⟩)] w fun e w' => ItemS (VIA b V rb Bp (csA nm fr wt o0 o1 wv pv) w0 w1) (Apb b w0) acc (aggP l) e w' := by
 obtain ⟨S, hS⟩ : ∃ S, ItemS (VIA b V rb Bp (csA nm fr wt o0 o1 wv pv) w0 w1) (Apb b w0) acc (aggP l) = S := ⟨_, rfl⟩
 rw [hS]
 have HC := Lib.hid (fun u (hu : Rq u b l) => agg_cR b l u hu)
 have Hi := Lib.hid hi
 have HS := Lib.hid hS
 obtain ⟨v, hv, ho⟩ := hi.sl
 have HV := Lib.hid hv
 have HO := Lib.hid ho
 have c1 : w.cell? ⟨V, 8, none⟩ = some v := hv.cell 8
 have f1 := hv.thaw 8
 have hlC := hv.lt
 have hbV : b < V := by have := hi.b0; have := hi.rb0; have := hi.c0; omega
 have hw0V : w0.heap.size ≤ V := by have := hi.rb0; have := hi.c0; omega
 have hVB := hi.v0
 have hrV := hi.c0
 have hbr : b ≠ rb := hi.rb0.2
 have hbx : Bk w rb #[.pointer (some ⟨b, 0, none⟩)] 154 := (hi.kp rb (by omega) (by omega) (by omega)).trans hi.bx
 have p0 : w.cell? ⟨rb, 0, none⟩ = some (.pointer (some ⟨b, 0, none⟩)) := hbx.cell 0
 have hlr := hbx.lt
 have hln := hi.len
 have hsz := hi.sz
 obtain ⟨x, hx⟩ : ∃ x : Ag, ((aggP l).map (·.1)).getD ⟨0, 0⟩ = x := ⟨_, rfl⟩
 have Hx := Lib.hid hx
 clear hi hv ho hS hx hbx
 go_enter Tryz.func152, Tryz.ntmps152
 go_region_law (first
  | (refine step_callO rfl 153 #[.pointer (some ⟨b, 0, none⟩)] (by kernel_rfl) x.w (fun w' => ∃ r, aggP l = some (x, r) ∧ Rq w' b r ∧ Apb b w w') ((HC.out _ Hi.out.rq.drew).mono ?_) ?_
     · intro e w1 hn
       cases hq : aggP l with
       | none =>
         rw [hq] at hn
         refine .inr ⟨_, hn.1, rfl, ?_⟩
         rw [← HS.out, hq]
         exact ⟨rfl, Hi.out.ap.drew.trans hn.2⟩
       | some q =>
         obtain ⟨y, r⟩ := q
         have e := Hx.out
         rw [hq] at hn e
         have e : y = x := e
         subst e
         exact .inl ⟨hn.1, r, rfl, hn.2.1, (Apb.refl b w).drew.trans hn.2.2⟩
     rintro wx ⟨r, hq1, hr1, hb1⟩
     have Hq1 := Lib.hid hq1
     have Hr1 := Lib.hid hr1
     have Hb1 := Lib.hid hb1
     have HV1 := Lib.hid (HV.out.kept hb1 (by omega))
     have HO1 := Lib.hid (HO.out.kept hb1 (by omega))
     have c1' : wx.cell? ⟨V, 8, none⟩ = some v := HV1.out.cell 8
     have f1' := HV1.out.thaw 8
     have hlC1 := HV1.out.lt
     have hle := agg_len hq1
     have hsx := hb1.size
     try simp only at hle
     clear hq1 hr1 hb1)
  | (refine step_appG aOk7 rfl (.tmp 3) (.tmp 6) rfl Bp v acc [x] rfl (HO1.out.alloc _) (some ⟨wx.heap.size, 0, none⟩) 1 1 rfl rfl (by simp) (SlG.new aOk7.len [x] rfl) (by simp [maxLen]; omega) (by simp; omega) (by simp; omega) ?_
     intro g2 cap w2 hv2 hg2
     have hbk2 : ∀ k, k < Bp → w2.heap[k]? = wx.heap[k]? := fun k hk => (hg2.block k (by simp; omega) (fun e => by have := (HO1.out.lt _ e.symm).1; omega)).trans (Below.heap_alloc _ _ k (by omega))
     have Hbk2 := Lib.hid hbk2
     have HO2 := Lib.hid hv2
     have hs2 : wx.heap.size ≤ w2.heap.size := by have := hg2.size; simp at this; omega
     have Hg2 := Lib.hid (((Hi.out.ap.trans Hb1.out).alloc (.cells #[.int .i64 x.fn, .int .i64 x.col] 74)).grown hg2 (fun k hk => by have := (HO1.out.lt k hk).1; omega))
     have HV2 : Hid (Bk w2 V (csA nm fr wt o0 o1 wv pv v) 32) := Lib.hid ((hbk2 V hVB).trans HV1.out)
     have c2' : w2.cell? ⟨V, 8, none⟩ = some v := HV2.out.cell 8
     have f2' := HV2.out.thaw 8
     have hlC2 := HV2.out.lt
     clear hv2 hg2 hbk2))
 all_goals
  go_end0
  rw [← HS.out, Hq1.out]
  refine ⟨rfl, ⟨?_, Hg2.out.own (by omega) 8 _, ⟨_, HV2.out.set 8 _, ?_⟩, ?_, Hi.out.bx, by simp; omega, Hi.out.b0, Hi.out.rb0, Hi.out.c0, Hi.out.v0, by simp [World.setCell]; omega⟩⟩
  · exact (Hr1.out.same fun k hk => Hbk2.out k (by omega)).own (by omega) 8 _
  · have h2 := HO2.out.same (w' := w2.setCell ⟨V, 8, none⟩ (.slice (some ⟨g2, 0, none⟩) (acc.length + [x].length) cap)) (fun k hk => Below.heap_setCell _ _ _ _ (by have := (HO2.out.lt k hk).1; show k ≠ V; omega))
    exact h2
  · intro k a1 a2 a3
    exact (Below.heap_setCell _ _ _ _ (show k ≠ V from a3)).trans ((Hbk2.out k a1).trans ((Hb1.out.other k (by omega) a2).trans (Hi.out.kp k a1 a2 a3)))
theorem step_appG0 {α : Type} {rd : α → List Value} {S : Nat} {P : Program} {T E : TypeId} {bytes : Nat} {z : Value} {ops : Array Oper} {o : Oper} {a : Act} {w : World} {K : Act → World → Prop} {Q : Exit → Act → World → Prop} {F : Prop} (he : ElOk P T E S bytes z rd) (hgd : o.guard = none) (s y : Operand) (ho : o.op = .call { callee := .builtin .append, args := #[s, y], argTypes := #[T, T] })
 (B : Nat) (v : Value) (xs : List α) (hs : a.eval s = v) (hb : OwnG w B E S rd v xs) (A : Option Addr) (c : Nat) (hy : a.eval y = .slice A 0 c)
 (h : K (a.put o.dst v) w) : if Region.wanted o (yielded ops a.tmps) = true then Oper.wp P o a w K Q else F := by
 have hw : Region.wanted o (yielded ops a.tmps) = true := by simp [Region.wanted, hgd]
 rw [if_pos hw]
 have hr : (Builtin.append_ #[T, T] o.type #[v, .slice A 0 c]).run P w = .ok v w := by
  obtain ⟨i0, hi, hz0, hz1, hz2⟩ := he.parts
  cases A with
  | none => exact app_none he w v B c o.type xs hb
  | some ad =>
    have hl : (loadCells ad 0).run P w = .ok #[] w := by simp [loadCells, loadCellsFrom]
    rcases hb.2 with ⟨rfl, _⟩ | ⟨g, cap, cur, rfl, _, _, hnc, _⟩
    · simp [Builtin.append_, run_underlying he.under, sizeOf, typeInfo, hi, Builtin.lenOf, Builtin.firstCells, hl]
    · simp [Builtin.append_, run_underlying he.under, sizeOf, typeInfo, hi, Builtin.lenOf, Builtin.firstCells, hnc, storeCells, hl]
 unfold Oper.wp execOp
 simp only [ho, resolve, invoke, builtin, Sem.run_bind, Sem.run_pure, Result.andThen_ok, List.map_toArray, List.map_cons, List.map_nil, hs, hy, hr]
 exact h
section
variable {α : Type} {rd : α → List Value} {S : Nat} {P : Program} {T E : TypeId} {bytes : Nat} {z : Value}
theorem step_appL {ops : Array Oper} {o : Oper} {a : Act} {w : World} {K : Act → World → Prop} {Q : Exit → Act → World → Prop} {F : Prop} (he : ElOk P T E S bytes z rd) (hgd : o.guard = none) (s y : Operand) (ho : o.op = .call { callee := .builtin .append, args := #[s, y], argTypes := #[T, T] })
 (B : Nat) (v : Value) (xs ys : List α) (hs : a.eval s = v) (hb : OwnG w B E S rd v xs) (A : Option Addr) (n c : Nat) (hy : a.eval y = .slice A n c) (hn : ys.length = n) (hsl : SlG w A S rd ys)
 (hmax : xs.length + ys.length ≤ maxLen) (hbytes : (xs.length + ys.length) * bytes ≤ 140737488355328) (hB : B ≤ w.heap.size)
 (h : ∀ A' c' w', OwnG w' B E S rd (.slice A' (xs.length + ys.length) c') (xs ++ ys) → w.grownBy w' v.ownBlock → ((Value.slice A' (xs.length + ys.length) c').ownBlock = v.ownBlock ∨ (Value.slice A' (xs.length + ys.length) c').ownBlock = some w.heap.size) → K (a.put o.dst (.slice A' (xs.length + ys.length) c')) w') :
 if Region.wanted o (yielded ops a.tmps) = true then Oper.wp P o a w K Q else F := by
 by_cases hne : ys = []
 · subst hne
   subst hn
   obtain ⟨A', c', rfl⟩ := hb.isSlice
   refine step_appG0 he hgd s y ho B _ xs hs hb A c hy ?_
   exact h A' c' w (by rw [List.append_nil]; exact hb) (World.grownBy.refl w _) (.inl rfl)
 · obtain ⟨i0, hi, hz0, hz1, hz2⟩ := he.parts
   subst hn
   rcases hsl with h0 | ⟨b, off, rfl, hlt, hc⟩
   · exact absurd h0 hne
   refine step_append_lies w hgd s y T ho B E i0 z S bytes he.under hi hz0 hz1 hz2 he.zs he.pos v xs.length (xs.flatMap rd) hs hb ⟨b, off, none⟩ ys.length c (ys.flatMap rd) hy (flat_len he.len ys) (fun j u hj => by rw [Go.WideShapes.add_plain]; exact SlG.flat he.len he.pos hc j u hj) (fun u hu => by obtain ⟨q, _, hq⟩ := List.mem_flatMap.1 hu; exact he.one q u hq) (List.length_pos_iff.2 hne) hmax hbytes hB _ rfl ?_
   intro g' cap w' hown' hgrow hl _
   refine h (some ⟨g', 0, none⟩) cap w' ?_ hgrow ?_
   · unfold OwnG
     rw [List.flatMap_append, List.length_append]
     exact hown'
   · rcases hl with hl | hl
     · exact .inl hl.symm
     · exact .inr (by rw [hl]; rfl)
end
section
variable {α β : Type} {rd : α → List Value} {rd' : β → List Value} {S S' : Nat} {E E' : TypeId}
end
end Go.Proofs.YtjgpmnffagdhlaaGreatDoor
namespace Go.Proofs.YtjgpmnffagdhlaaGreatDoor
open Go Go.RowKit
set_option maxRecDepth 100000
theorem eOk7 : ElOk Tryz.prog 23 28 1 24 (.slice none 0 0) rdX where
 under := Tryz.underlying23
 info := by kernel_rfl
 zs := rfl
 pos := by decide
 len := fun _ => rfl
 one := fun x u hu => by
  simp [rdX] at hu
  rcases hu with rfl; rfl
theorem step_callV {P : Program} {ops : Array Oper} {o : Oper} {a : Act} {w : World} {K : Act → World → Prop} {Q : Exit → Act → World → Prop} {F : Prop} (hgd : o.guard = none) (f : FuncId) (args : Array Value) (hrun : (execOp a.eval o).run P w = .ok (.enter f args) w)
 (R : Value → World → Prop) (hc : Calls P f args w fun e w' => (∃ v, e = .returned v ∧ R v w') ∨ (∃ ch, e = .panicked ch ∧ Q (.panic ch) a w')) (h : ∀ v w', R v w' → K (a.put o.dst v) w') : if Region.wanted o (yielded ops a.tmps) = true then Oper.wp P o a w K Q else F := by
 have hw : Region.wanted o (yielded ops a.tmps) = true := by simp [Region.wanted, hgd]
 rw [if_pos hw]
 unfold Oper.wp
 rw [hrun]
 refine hc.mono ?_
 rintro e w' (⟨v, rfl, hr⟩ | ⟨ch, rfl, hq⟩)
 · exact h v w' hr
 · exact hq
def OutX (w : World) (ob : Option Nat) (lo : Nat) (h : Sx Nd) : Prop := h.In w 5 rdN ∧ ∀ k, h.A.map (·.block) = some k → lo ≤ k ∧ k < w.heap.size ∧ some k ≠ ob
theorem Sx.In.same {α : Type} {w w' : World} {S : Nat} {rd : α → List Value} {h : Sx α} (hi : h.In w S rd) (hs : w.heap.size ≤ w'.heap.size) (hb : ∀ k, h.A.map (·.block) = some k → w'.heap[k]? = w.heap[k]?) : h.In w' S rd := by
 refine ⟨hi.len, hi.max, ?_⟩
 rcases hi.sl with h0 | ⟨b, off, hA, hlt, hc⟩
 · exact .inl h0
 · refine .inr ⟨b, off, hA, Nat.lt_of_lt_of_le hlt hs, fun i x hx j u hu => ?_⟩
   rw [← hc i x hx j u hu]
   simp only [World.cell?, hb b (by rw [hA]; rfl)]
theorem OutX.same {w w' : World} {ob ob' : Option Nat} {lo : Nat} {h : Sx Nd} (hi : OutX w ob lo h) (hs : w.heap.size ≤ w'.heap.size) (hb : ∀ k, lo ≤ k → k < w.heap.size → some k ≠ ob → w'.heap[k]? = w.heap[k]? ∧ some k ≠ ob') : OutX w' ob' lo h :=
 ⟨hi.1.same hs fun k hk => (hb k (hi.2 k hk).1 (hi.2 k hk).2.1 (hi.2 k hk).2.2).1, fun k hk => ⟨(hi.2 k hk).1, Nat.lt_of_lt_of_le (hi.2 k hk).2.1 hs, (hb k (hi.2 k hk).1 (hi.2 k hk).2.1 (hi.2 k hk).2.2).2⟩⟩
theorem OwnG.sx {α : Type} {rd : α → List Value} {S : Nat} {w : World} {B : Nat} {E : TypeId} {v : Value} {xs : List α} (hl : ∀ x, (rd x).length = S) (h : OwnG w B E S rd v xs) : ∃ A c, v = .slice A xs.length c ∧ (⟨A, xs.length, c, xs⟩ : Sx α).In w S rd ∧ ∀ k, A.map (·.block) = some k → B ≤ k ∧ k < w.heap.size := by
 rcases h.2 with ⟨rfl, hn⟩ | ⟨g, cap, cur, rfl, hB, hh, hle, hm, _⟩
 · obtain rfl : xs = [] := List.eq_nil_of_length_eq_zero hn
   exact ⟨none, 0, rfl, ⟨rfl, Nat.zero_le _, .inl rfl⟩, fun k hk => by cases hk⟩
 · obtain ⟨A, c, hv, h1, h2, h3⟩ := h.sl hl
   injection hv with e1 e2 e3
   subst e1
   refine ⟨some ⟨g, 0, none⟩, c, by rw [e3], ⟨rfl, Nat.le_trans h1 h2, h3⟩, fun k hk => ?_⟩
   simp at hk
   subst hk
   exact h.lt g rfl
def Sx.Lo {α : Type} (B : Nat) (h : Sx α) : Prop := ∀ k, h.A.map (·.block) = some k → B ≤ k
structure Tm.Lo (B : Nat) (x : Tm) : Prop where
 cols : x.cols.Lo B
 chks : x.chks.Lo B
 each : ∀ e ∈ x.chks.xs, e.Lo B
structure Vm.Lo (B : Nat) (x : Vm) : Prop where
 whr : x.whr.Lo B
 pick : x.pick.Lo B
 aggs : x.aggs.Lo B
def TableS (b : Nat) (w : World) (o : Option (Tb × List Tk)) (e : Ending) (w' : World) : Prop := match o with
 | none => e = .panicked (boom 70) ∧ Apb b w w'
 | some q => ∃ x : Tm, e = .returned x.w ∧ x.In w' ∧ x.Lo w.heap.size ∧ x.tb = q.1 ∧ Rq w' b q.2 ∧ Apb b w w'
theorem ret_tb {fn : Func} {R : Ending → World → Prop} {F : Act} {w : World} {t : Tmp} {b : Nat} {s : ByteArray} {u v : Value} (hu : u.oneCell' = true) (hv : v.oneCell' = true) (hres : fn.results = #[.cell t 25]) (ht : Reg.slot F t = .pointer (some ⟨b, 0, none⟩)) (hb : Bk w b #[.string s, u, v] 25) (hd : F.defers = [])
 (hR : R (.returned (.agg #[.string s, u, v])) w) : bodyPost Tryz.prog fn R .ret F w := by
 have h0 : w.cell? ⟨b, 0, none⟩ = some (.string s) := hb.cell 0
 have h1 : w.cell? ⟨b, 1, none⟩ = some u := hb.cell 1
 have h2 : w.cell? ⟨b, 2, none⟩ = some v := hb.cell 2
 refine bodyPost_ret (v := .agg #[.string s, u, v]) ?_ hd hR
 have ht' : F.tmps[t]?.getD undef = .pointer (some ⟨b, 0, none⟩) := by simpa [Reg.slot] using ht
 simp [results, hres, ht', go_sem, h0, h1, h2]
theorem tableP_eq (l : List Tk) : tableP l = (nameP l).bind fun a => (needP s_lp a.2).bind fun r => (sepP columnP r).bind fun c => (needP s_rp c.2).bind fun q => (checksG q).bind fun k =>
 if c.1.length ≤ 40 ∧ k.1.length ≤ 40 then some (⟨a.1, c.1, k.1⟩, k.2) else none := rfl
set_option maxHeartbeats 8000000 in
theorem table_cR (b : Nat) (l : List Tk) (w : World) (hR : Rq w b l) (hG : GL w) (hGb : GLt b) :
 Calls Tryz.prog 101 #[.pointer (some ⟨b, 0, none⟩)] w fun e w' => TableS b w (tableP l) e w' := by
 have hbs := hR.lt
 obtain ⟨S, hS⟩ : ∃ S, TableS b w (tableP l) = S := ⟨_, rfl⟩
 rw [hS]
 rw [tableP_eq] at hS
 have HS := Lib.hid hS
 have HG := Lib.hid hG
 have Hgb := Lib.hid hGb
 have hmf : ∀ (fn : Fn) (first cap : Array Value) (w : World), (Instr.makeFunc fn first cap).run Tryz.prog w = .ok (.func fn first cap) w := fun _ _ _ _ => rfl
 obtain ⟨W, hW⟩ : ∃ W, (w.alloc (.cells #[.pointer (some ⟨b, 0, none⟩)] 154)).alloc (.cells #[.string emp, .slice none 0 0, .slice none 0 0] 25) = W := ⟨_, rfl⟩
 have hz : W.heap.size = w.heap.size + 2 := by rw [← hW]; simp
 have HBx : Hid (Bk W w.heap.size #[.pointer (some ⟨b, 0, none⟩)] 154) := Lib.hid (by rw [← hW]; exact (Bk.new w _ _).after (below_one _ _) (by simp))
 have HBt : Hid (Bk W (w.heap.size + 1) #[.string emp, .slice none 0 0, .slice none 0 0] 25) := Lib.hid (by rw [← hW]; have := Bk.new (w.alloc (.cells #[.pointer (some ⟨b, 0, none⟩)] 154)) #[.string emp, .slice none 0 0, .slice none 0 0] 25; simpa using this)
 have HR0 : Hid (Rq W b l) := Lib.hid (by rw [← hW]; exact (hR.alloc _).alloc _)
 have HA0 : Hid (Apb b w W) := Lib.hid (by rw [← hW]; exact ((Apb.refl b w).alloc _).alloc _)
 have p0 : W.cell? ⟨w.heap.size, 0, none⟩ = some (.pointer (some ⟨b, 0, none⟩)) := HBx.out.cell 0
 have HW := Lib.hid hW
 clear hR hG hGb hS hW
 go_enter Tryz.func101, Tryz.ntmps101
 go_wp2_with fail
 rw [HW.out]
 refine (name_cR b l W HR0.out).mono ?_
 rintro e w1 hn
 cases hq : nameP l with
 | none =>
   rw [hq] at hn HS
   obtain ⟨rfl, hb⟩ := hn
   refine ⟨rfl, ?_⟩
   rw [← HS.out]
   exact ⟨rfl, HA0.out.trans hb⟩
 | some a =>
   rw [hq] at hn HS
   obtain ⟨rfl, hr, hb⟩ := hn
   obtain ⟨nm, l1⟩ := a
   simp only [Option.bind_some] at HS
   have hlen := hr.len
   have hzW : W.heap.size ≤ w1.heap.size := hb.size
   have Hr1 := Lib.hid hr
   have Hb1 := Lib.hid hb
   have HBx1 := Lib.hid (HBx.out.kept hb (by omega))
   have p1 : w1.cell? ⟨w.heap.size, 0, none⟩ = some (.pointer (some ⟨b, 0, none⟩)) := HBx1.out.cell 0
   have hx1 := HBx1.out.lt
   have HC1 := Lib.hid (Bk.new w1 #[.string nm, .slice none 0 0, .slice none 0 0] 25)
   obtain ⟨C, hC⟩ : ∃ C, w1.heap.size = C := ⟨_, rfl⟩
   have hzC : (w1.alloc (.cells #[.string nm, .slice none 0 0, .slice none 0 0] 25)).heap.size = C + 1 := by simp; exact hC
   have HzC := Lib.hid hzC
   have HCe := Lib.hid hC
   clear hq hr hb HBx HR0 hzC p0 HW hC
   go_wp2_with fail
   have hC := HCe.out
   rw [hC]
   rw [hC] at HC1
   refine (must1_c b (C + 1) l1 s_lp (by decide) _ HzC.out (Hr1.out.alloc _)).mono ?_
   rintro e w2 hn
   cases hq : needP s_lp l1 with
   | none =>
     rw [hq] at hn HS
     obtain ⟨rfl, hb⟩ := hn
     refine ⟨rfl, ?_⟩
     rw [← HS.out]
     exact ⟨rfl, (HA0.out.trans (Hb1.out.alloc _)).trans hb⟩
   | some l2 =>
     have hll := need_len hq
     rw [hq] at hn HS
     simp only [Option.bind_some] at HS
     obtain ⟨rfl, hr, hb⟩ := hn
     have hA1 : Apb b w1 (w1.alloc (.cells #[.string nm, .slice none 0 0, .slice none 0 0] 25)) := (Apb.refl b w1).alloc _
     have HI2 : Hid (CI b C w.heap.size nm W w2 l2 []) := Lib.hid (by
      have hCk := HC1.out.kept hb (by omega)
      refine ⟨hr, Hb1.out.trans (hA1.trans hb), ⟨_, hCk, OwnG.nil _ _ _⟩, (HBx1.out.kept hA1 (by omega)).kept hb (by omega), by simp; omega, by omega, ⟨by omega, by omega⟩, by omega⟩)
     have p2 : w2.cell? ⟨w.heap.size, 0, none⟩ = some (.pointer (some ⟨b, 0, none⟩)) := HI2.out.bx.cell 0
     have hbC : b < C := by omega
     clear hq hr hb hA1 HBx1 p1 HzC HC1 Hr1 hll hC
     go_wp2_with fail
     refine (list_cR columnP (fun l a h => Nat.le_of_lt (column_len h)) (CI b C w.heap.size nm W) (Apb b W) b 144 _ (fun _ _ _ h => h.rq) (fun _ _ _ _ _ h1 h2 h3 h4 => h1.keep h2 h3 h4) (fun u l acc h => col1_c b C w.heap.size nm W u l acc h) (fun u => by kernel_rfl) l2 [] w2 HI2.out).mono ?_
     rintro e w3 hn
     cases hq : sepP columnP l2 with
     | none =>
       rw [hq] at hn HS
       obtain ⟨rfl, hb⟩ := hn
       refine ⟨rfl, ?_⟩
       rw [← HS.out]
       exact ⟨rfl, HA0.out.trans hb⟩
     | some cq =>
       obtain ⟨cols, l3⟩ := cq
       rw [hq] at hn HS
       simp only [Option.bind_some] at HS
       obtain ⟨rfl, hi⟩ := hn
       rw [List.nil_append] at hi
       have p3 : w3.cell? ⟨w.heap.size, 0, none⟩ = some (.pointer (some ⟨b, 0, none⟩)) := hi.bx.cell 0
       have HI3 := Lib.hid hi
       clear hq hi HI2 p2 Hb1
       go_wp2_with fail
       refine (must1_c b w3.heap.size l3 s_rp (by decide) w3 rfl HI3.out.rq).mono ?_
       rintro e w4 hn
       cases hq : needP s_rp l3 with
       | none =>
         rw [hq] at hn HS
         obtain ⟨rfl, hb⟩ := hn
         refine ⟨rfl, ?_⟩
         rw [← HS.out]
         exact ⟨rfl, HA0.out.trans (HI3.out.ap.trans hb)⟩
       | some l4 =>
         have hll := need_len hq
         rw [hq] at hn HS
         simp only [Option.bind_some] at HS
         obtain ⟨rfl, hr, hb⟩ := hn
         have hi4 := HI3.out.keep hr hb (Nat.le_of_lt hll)
         obtain ⟨cv, hv4, ho4⟩ := hi4.sl
         obtain ⟨Ac, cc, hcv, hin4, hbl4⟩ := ho4.sx cOk7.len
         have HI4 := Lib.hid hi4
         have HV4 := Lib.hid hv4
         have HN4 := Lib.hid hin4
         have HL4 := Lib.hid hbl4
         have hC4 : C < w4.heap.size := hv4.lt
         have hrC : w.heap.size < C := hi4.c0
         have hWC : W.heap.size ≤ C := hi4.rb0.1
         have hln4 := hi4.rq.len
         have ho4 := trivial
         subst hcv
         clear hq hr hb HI3 p3 hll hi4 hv4 ho4 hin4 hbl4
         go_wp2_with fail
         go_loopw [18] (fun _ wr => ∃ (v : Value) (hs : List (Sx Nd)) (rest : List Tk), Hid (Rq wr b rest) ∧ Hid (Apb b W wr) ∧ Hid (Bk wr C #[.string nm, .slice Ac cols.length cc, v] 25) ∧ Hid (OwnG wr w4.heap.size 28 1 rdX v hs) ∧ Hid (∀ h ∈ hs, OutX wr v.ownBlock w4.heap.size h) ∧ Hid (∀ k, k < w4.heap.size → k ≠ b → k ≠ C → wr.heap[k]? = w4.heap[k]?) ∧ Hid (checksG l4 = (checksG rest).map fun k => (hs.map (·.xs) ++ k.1, k.2)) ∧ Hid (hs.length + rest.length ≤ 20000) ∧ Hid (w4.heap.size ≤ wr.heap.size)) (fun _ wr => rqLen wr b)
         case atStart => exact ⟨.slice none 0 0, [], l4, Lib.hid HI4.out.rq, Lib.hid HI4.out.ap, HV4, OwnG.nil _ _ _, Lib.hid (by intro h hh; cases hh), Lib.hid (fun _ _ _ _ => rfl), Lib.hid (by cases checksG l4 <;> rfl), Lib.hid (by simpa using hln4), Lib.hid (Nat.le_refl _)⟩
         case round =>
          obtain ⟨v, hs, rest, hr, ha, hv, ho, he, hk, hck, hln, hsz⟩ := hrel
          have hbx : Bk wr w.heap.size #[.pointer (some ⟨b, 0, none⟩)] 154 := (hk.out w.heap.size (by omega) (by omega) (by omega)).trans HI4.out.bx
          have p0 : wr.cell? ⟨w.heap.size, 0, none⟩ = some (.pointer (some ⟨b, 0, none⟩)) := hbx.cell 0
          have hxl := hbx.lt
          have HL := Lib.hid hr.out.left
          have HH := Lib.hid (has1_c b wr.heap.size rest w_check (by decide) wr rfl hr.out)
          clear hbx
          cases hq : (takeP w_check rest).1
          · rw [hq] at HH
            rw [take_no hq] at HH
            have hg := checksG_eq rest
            rw [hq] at hg
            simp only [Bool.false_eq_true, if_false] at hg
            have hck2 := hck.out
            rw [hg, Option.map_some, List.append_nil] at hck2
            rw [hck2] at HS
            simp only [Option.bind_some] at HS
            clear hg hck2 hck hq
            go_wp2_with fail
            refine HH.out.mono ?_
            rintro e w5 ⟨rfl, hr5, hb5⟩
            have hCr : C < wr.heap.size := Nat.lt_of_lt_of_le hC4 hsz.out
            have HV5 := Lib.hid (hv.out.kept hb5 (by omega))
            have HA5 := Lib.hid (ha.out.trans hb5)
            have HO5 := Lib.hid (ho.out.kept hb5 (by omega))
            have HE5 : Hid (∀ h ∈ hs, OutX w5 v.ownBlock w4.heap.size h) := Lib.hid fun h hh => (he.out h hh).same hb5.size fun k h1 h2 h3 => ⟨hb5.other k h2 (by omega), h3⟩
            have HK5 : Hid (∀ k, k < w4.heap.size → k ≠ b → k ≠ C → w5.heap[k]? = w4.heap[k]?) := Lib.hid fun k h1 h2 h3 => (hb5.other k (by have := hsz.out; omega) h2).trans (hk.out k h1 h2 h3)
            have Hr5 := Lib.hid hr5
            have hsz5 : w4.heap.size ≤ w5.heap.size := Nat.le_trans hsz.out hb5.size
            obtain ⟨Av, c5, hv5, hin5, hbl5⟩ := ho.out.sx eOk7.len
            subst hv5
            have hbv5 : ∀ k, Av.map (·.block) = some k → w4.heap.size ≤ k := fun k hk => (hbl5 k hk).1
            have Hbv5 := Lib.hid hbv5
            clear hbv5
            have HT5 := Lib.hid (HBt.out.kept HA5.out (by omega))
            have c0 : w5.cell? ⟨C, 0, none⟩ = some (.string nm) := HV5.out.cell 0
            have c1 : w5.cell? ⟨C, 1, none⟩ = some (.slice Ac cols.length cc) := HV5.out.cell 1
            have c2 : w5.cell? ⟨C, 2, none⟩ = some (.slice Av hs.length c5) := HV5.out.cell 2
            have hC5 := HV5.out.lt
            have t0 : w5.cell? ⟨w.heap.size + 1, 0, none⟩ = some (.string emp) := HT5.out.cell 0
            have t1 : w5.cell? ⟨w.heap.size + 1, 1, none⟩ = some (.slice none 0 0) := HT5.out.cell 1
            have t2 : w5.cell? ⟨w.heap.size + 1, 2, none⟩ = some (.slice none 0 0) := HT5.out.cell 2
            have z0 := HT5.out.thaw 0
            have z1 := HT5.out.thaw 1
            have z2 := HT5.out.thaw 2
            have hT5 := HT5.out.lt
            clear hr5 hb5 HH ho hv he hk ha hr hin5 hbl5 p0 hxl HL
            by_cases h40 : cols.length ≤ 40
            · have d1 : decide ((cols.length : Int) ≤ 40) = true := by simp; omega
              by_cases k40 : hs.length ≤ 40
              · have d2 : decide ((hs.length : Int) ≤ 40) = true := by simp; omega
                rw [if_pos ⟨h40, by simpa using k40⟩] at HS
                have hne : ¬ w.heap.size + 1 = C := by omega
                go_wp2_with fail
                refine (req_yes _).mono ?_
                rintro e w6 ⟨rfl, rfl⟩
                clear d1 d2
                go_wp2
                refine ret_tb (b := w.heap.size + 1) (s := nm) (u := .slice Ac cols.length cc) (v := .slice Av hs.length c5) rfl rfl Tryz.results101 rfl (HT5.out.put [.string nm, .slice Ac cols.length cc, .slice Av hs.length c5] rfl) rfl ?_
                rw [← HS.out]
                have hput : ∀ k, k ≠ w.heap.size + 1 → (putL w6 (w.heap.size + 1) 0 [.string nm, .slice Ac cols.length cc, .slice Av hs.length c5]).heap[k]? = w6.heap[k]? := fun k hk => putL_heap _ _ _ _ _ hk
                have hsp : w6.heap.size ≤ (putL w6 (w.heap.size + 1) 0 [.string nm, .slice Ac cols.length cc, .slice Av hs.length c5]).heap.size := by rw [putL_size]; exact Nat.le_refl _
                refine ⟨⟨nm, ⟨Ac, cols.length, cc, cols⟩, ⟨Av, hs.length, c5, hs⟩⟩, rfl, ⟨?_, ?_, ?_⟩, ⟨fun k hk => by have := (HL4.out k hk).1; omega, fun k hk => by have := Hbv5.out k hk; omega, fun h hh k hk => by have := ((HE5.out h hh).2 k hk).1; omega⟩, rfl, Hr5.out.put (c := w.heap.size + 1) (by omega) 0 [.string nm, .slice Ac cols.length cc, .slice Av hs.length c5], (HA0.out.trans HA5.out).put (c := w.heap.size + 1) (by omega) 0 [.string nm, .slice Ac cols.length cc, .slice Av hs.length c5]⟩
                · have h1 := HN4.out.same hsz5 fun k hk => HK5.out k (HL4.out k hk).2 (by have := (HL4.out k hk).1; omega) (by have := (HL4.out k hk).1; omega)
                  exact h1.same hsp fun k hk => hput k (by have := (HL4.out k hk).1; omega)
                · obtain ⟨Av', c5', e1, hin, hbl⟩ := HO5.out.sx eOk7.len
                  injection e1 with e1 e2 e3
                  subst e1 e3
                  exact hin.same hsp fun k hk => hput k (by have := (hbl k hk).1; omega)
                · intro h hh
                  exact (HE5.out h hh).1.same hsp fun k hk => hput k (by have := ((HE5.out h hh).2 k hk).1; omega)
              · have d2 : decide ((hs.length : Int) ≤ 40) = false := by simp; omega
                rw [if_neg (fun h => k40 (by simpa using h.2))] at HS
                go_wp2_with fail
                refine (req_no _).mono ?_
                rintro e w6 ⟨rfl, rfl⟩
                refine ⟨rfl, ?_⟩
                rw [← HS.out]
                exact ⟨rfl, HA0.out.trans HA5.out⟩
            · have d1 : decide ((cols.length : Int) ≤ 40) = false := by simp; omega
              rw [if_neg (fun h => h40 h.1)] at HS
              go_wp2_with fail
              refine (req_no _).mono ?_
              rintro e w6 ⟨rfl, rfl⟩
              refine ⟨rfl, ?_⟩
              rw [← HS.out]
              exact ⟨rfl, HA0.out.trans HA5.out⟩
          · rw [hq] at HH
            have hg := checksG_eq rest
            rw [hq] at hg
            simp only [if_true] at hg
            obtain ⟨l5, hl5⟩ : ∃ l5, (takeP w_check rest).2 = l5 := ⟨_, rfl⟩
            have hlt5 : l5.length < rest.length := by rw [← hl5]; exact (take_len w_check rest).2 hq
            rw [hl5] at HH hg
            have Hg := Lib.hid hg
            clear hg hq hl5
            go_wp2_with fail
            refine HH.out.mono ?_
            rintro e w5 ⟨rfl, hr5, hb5⟩
            have hCr : C < wr.heap.size := Nat.lt_of_lt_of_le hC4 hsz.out
            have hvl : ∀ k, v.ownBlock = some k → w4.heap.size ≤ k ∧ k < wr.heap.size := fun k hk => ho.out.lt k hk
            have HV5 := Lib.hid (hv.out.kept hb5 (by omega))
            have HA5 := Lib.hid (ha.out.trans hb5)
            have HO5 := Lib.hid (ho.out.kept hb5 (by omega))
            have HE5 : Hid (∀ h ∈ hs, OutX w5 v.ownBlock w4.heap.size h) := Lib.hid fun h hh => (he.out h hh).same hb5.size fun k h1 h2 h3 => ⟨hb5.other k h2 (by omega), h3⟩
            have HK5 : Hid (∀ k, k < w4.heap.size → k ≠ b → k ≠ C → w5.heap[k]? = w4.heap[k]?) := Lib.hid fun k h1 h2 h3 => (hb5.other k (by have := hsz.out; omega) h2).trans (hk.out k h1 h2 h3)
            have Hr5 := Lib.hid hr5
            have hsz5 : w4.heap.size ≤ w5.heap.size := Nat.le_trans hsz.out hb5.size
            have Hvl : Hid (∀ k, v.ownBlock = some k → w4.heap.size ≤ k ∧ k < w5.heap.size) := Lib.hid fun k hk => ⟨(hvl k hk).1, Nat.lt_of_lt_of_le (hvl k hk).2 hb5.size⟩
            have hln5 := hln.out
            have c2 : w5.cell? ⟨C, 2, none⟩ = some v := HV5.out.cell 2
            have f2 := HV5.out.thaw 2
            have hC5 := HV5.out.lt
            have p5 : w5.cell? ⟨w.heap.size, 0, none⟩ = some (.pointer (some ⟨b, 0, none⟩)) := by
             have : Bk w5 w.heap.size #[.pointer (some ⟨b, 0, none⟩)] 154 := (HK5.out w.heap.size (by omega) (by omega) (by omega)).trans HI4.out.bx
             exact this.cell 0
            have hx5 : w.heap.size < w5.heap.size := by omega
            have HX := Lib.hid (expr_cR b l5 w5.drew Hr5.out.drew (HG.out.below (((HA0.out.trans HA5.out).drew).below hbs) Hgb.out) Hgb.out)
            clear hr5 hb5 HH ho hv he hk ha hr p0 hxl hvl hln
            go_wp2_with fail
            go_region_law (first
             | (refine step_callV rfl 147 #[.pointer (some ⟨b, 0, none⟩)] (by kernel_rfl) (fun v' w' => ∃ es r, exprP l5 = some (es, r) ∧ OwnG w' w5.heap.size 66 5 rdN v' es ∧ Rq w' b r ∧ Apb b w5 w') (HX.out.mono ?_) ?_
                · intro e w6 hn
                  cases hq : exprP l5 with
                  | none =>
                    rw [hq] at hn
                    refine .inr ⟨_, hn.1, rfl, ?_⟩
                    have h1 := hck.out
                    rw [Hg.out, hq, Option.bind_none, Option.map_none] at h1
                    have h2 := HS.out
                    rw [h1, Option.bind_none] at h2
                    rw [← h2]
                    exact ⟨rfl, (HA0.out.trans HA5.out).drew.trans hn.2⟩
                  | some q =>
                    obtain ⟨es, r⟩ := q
                    rw [hq] at hn
                    obtain ⟨v', h1, h2, h3, h4⟩ := hn
                    exact .inl ⟨v', h1, es, r, rfl, h2, h3, (Apb.refl b w5).drew.trans h4⟩
                rintro ve wx ⟨es, r, hq1, hoe, hr1, hb1⟩
                obtain ⟨Ae, ce, hve, hine, hble⟩ := hoe.sx nOk.len
                subst hve
                have Hq1 := Lib.hid hq1
                have Hr1 := Lib.hid hr1
                have Hb1 := Lib.hid hb1
                have Hine := Lib.hid hine
                have Hble := Lib.hid hble
                have HV1 := Lib.hid (HV5.out.kept hb1 (by omega))
                have HO1 := Lib.hid (HO5.out.kept hb1 (by omega))
                have c2' : wx.cell? ⟨C, 2, none⟩ = some v := HV1.out.cell 2
                have f2' := HV1.out.thaw 2
                have hlC1 := HV1.out.lt
                have hle := expr_len hq1
                have hsx := hb1.size
                clear hq1 hr1 hb1 hoe hine hble)
             | (refine step_appL eOk7 rfl (.tmp 20) (.tmp 23) rfl w4.heap.size v hs [⟨Ae, es.length, ce, es⟩] rfl (HO1.out.alloc _) (some ⟨wx.heap.size, 0, none⟩) 1 1 rfl rfl (SlG.new eOk7.len [⟨Ae, es.length, ce, es⟩] rfl) (by simp [maxLen]; omega) (by simp; omega) (by simp; omega) ?_
                intro A2 c2x w2x hv2 hg2 hloc
                have Hv2 := Lib.hid hv2
                have Hg2 := Lib.hid hg2
                have Hloc := Lib.hid hloc
                have hbk2 : ∀ k, k < wx.heap.size → some k ≠ v.ownBlock → w2x.heap[k]? = wx.heap[k]? := fun k hk hne => (hg2.block k (by simp; omega) hne).trans (Below.heap_alloc _ _ k (by omega))
                have Hbk2 := Lib.hid hbk2
                have hs2 : wx.heap.size ≤ w2x.heap.size := by have := hg2.size; simp at this; omega
                have HV2 : Hid (Bk w2x C #[.string nm, .slice Ac cols.length cc, v] 25) := Lib.hid ((hbk2 C hlC1 (fun e => by have := (Hvl.out _ e.symm).1; omega)).trans HV1.out)
                have c2'' : w2x.cell? ⟨C, 2, none⟩ = some v := HV2.out.cell 2
                have f2'' := HV2.out.thaw 2
                have hlC2 := HV2.out.lt
                clear hv2 hg2 hloc hbk2))
            all_goals
             have hxl5 : w5.heap.size ≤ wx.heap.size := hsx
             have hset : ∀ k, k ≠ C → (w2x.setCell ⟨C, 2, none⟩ (.slice A2 (hs.length + 1) c2x)).heap[k]? = w2x.heap[k]? := fun k hk => Below.heap_setCell _ _ _ _ hk
             have hown : ∀ k, (Value.slice A2 (hs.length + 1) c2x).ownBlock = some k → w4.heap.size ≤ k ∧ k < w2x.heap.size := fun k hk => Hv2.out.lt k hk
             have hsz2 : (w2x.setCell ⟨C, 2, none⟩ (.slice A2 (hs.length + 1) c2x)).heap.size = w2x.heap.size := by simp [World.setCell]
             have hvb : ∀ k, some k = v.ownBlock → w4.heap.size ≤ k ∧ k < w5.heap.size := fun k hk => Hvl.out k hk.symm
             have HR9 : Hid (Rq (w2x.setCell ⟨C, 2, none⟩ (.slice A2 (hs.length + 1) c2x)) b r) := Lib.hid ((Hr1.out.same fun k hk => Hbk2.out k (by omega) (fun e => by have := hvb _ e; omega)).own (by omega) 2 _)
             have HA9 : Hid (Apb b W (w2x.setCell ⟨C, 2, none⟩ (.slice A2 (hs.length + 1) c2x))) := Lib.hid ((((HA5.out.trans Hb1.out).alloc _).grown Hg2.out (fun k hk => by have := (Hvl.out k hk).1; omega)).own (by omega) 2 _)
             have HV9 : Hid (Bk (w2x.setCell ⟨C, 2, none⟩ (.slice A2 (hs.length + 1) c2x)) C #[.string nm, .slice Ac cols.length cc, .slice A2 (hs.length + 1) c2x] 25) := Lib.hid (HV2.out.set 2 _)
             have HO9 : Hid (OwnG (w2x.setCell ⟨C, 2, none⟩ (.slice A2 (hs.length + 1) c2x)) w4.heap.size 28 1 rdX (.slice A2 (hs.length + 1) c2x) (hs ++ [⟨Ae, es.length, ce, es⟩])) := Lib.hid (Hv2.out.same fun k hk => hset k (by have := (Hv2.out.lt k hk).1; omega))
             have HE9 : Hid (∀ h ∈ hs ++ [(⟨Ae, es.length, ce, es⟩ : Sx Nd)], OutX (w2x.setCell ⟨C, 2, none⟩ (.slice A2 (hs.length + 1) c2x)) (Value.slice A2 (hs.length + 1) c2x).ownBlock w4.heap.size h) := Lib.hid fun h hh => by
              have hnew : ∀ k, k < wx.heap.size → some k ≠ v.ownBlock → some k ≠ (Value.slice A2 (hs.length + 1) c2x).ownBlock := fun k hk hne e => by
               rcases Hloc.out with h1 | h1
               · exact hne (e.trans h1)
               · have h2 := e.trans h1
                 simp at h2
                 omega
              rcases List.mem_append.1 hh with hh | hh
              · refine (HE5.out h hh).same (by rw [hsz2]; omega) fun k h1 h2 h3 => ⟨?_, hnew k (by omega) h3⟩
                rw [hset k (by omega), Hbk2.out k (by omega) h3]
                exact Hb1.out.other k h2 (by omega)
              · rw [List.mem_singleton] at hh
                subst hh
                refine ⟨Hine.out.same (by rw [hsz2]; exact hs2) fun k hk => ?_, fun k hk => ?_⟩
                · have h1 := Hble.out k hk
                  rw [hset k (by omega)]
                  exact Hbk2.out k h1.2 (fun e => by have := (hvb _ e).2; omega)
                · have h1 := Hble.out k hk
                  exact ⟨by omega, by rw [hsz2]; omega, hnew k h1.2 (fun e => by have := (hvb _ e).2; omega)⟩
             have HK9 : Hid (∀ k, k < w4.heap.size → k ≠ b → k ≠ C → (w2x.setCell ⟨C, 2, none⟩ (.slice A2 (hs.length + 1) c2x)).heap[k]? = w4.heap[k]?) := Lib.hid fun k h1 h2 h3 => by
              rw [hset k h3, Hbk2.out k (by omega) (fun e => by have := (hvb _ e).1; omega)]
              exact (Hb1.out.other k (by omega) h2).trans (HK5.out k h1 h2 h3)
             have HC9 : Hid (checksG l4 = (checksG r).map fun k => ((hs ++ [(⟨Ae, es.length, ce, es⟩ : Sx Nd)]).map (·.xs) ++ k.1, k.2)) := Lib.hid (by
              rw [hck.out, Hg.out, Hq1.out, Option.bind_some]
              cases checksG r with
              | none => rfl
              | some k => simp)
             have HL9 : Hid ((hs ++ [(⟨Ae, es.length, ce, es⟩ : Sx Nd)]).length + r.length ≤ 20000) := Lib.hid (by simp; omega)
             have HZ9 : Hid (w4.heap.size ≤ (w2x.setCell ⟨C, 2, none⟩ (.slice A2 (hs.length + 1) c2x)).heap.size) := Lib.hid (by rw [hsz2]; omega)
             have HM9 : Hid (rqLen (w2x.setCell ⟨C, 2, none⟩ (.slice A2 (hs.length + 1) c2x)) b < rqLen wr b) := Lib.hid (by rw [HR9.out.left, HL.out]; omega)
             clear hxl5 hset hown hsz2 hvb HE5 HO5 HV5 HA5 HK5 Hr5 Hvl HX Hq1 Hr1 Hb1 Hine Hble HV1 HO1 Hv2 Hg2 Hloc Hbk2 HV2 hck Hg c2 f2 p5 c2' f2' c2'' f2''
             go_wp2
             go_roundw
             case rel => exact ⟨_, _, r, HR9, HA9, HV9, HO9, HE9, HK9, HC9, HL9, HZ9⟩
             case measure => exact HM9.out
def ViewS (b : Nat) (w : World) (o : Option (Vw × List Tk)) (e : Ending) (w' : World) : Prop := match o with
 | none => e = .panicked (boom 70) ∧ Apb b w w'
 | some q => ∃ x : Vm, e = .returned x.w ∧ x.In w' ∧ x.Lo w.heap.size ∧ x.vw = q.1 ∧ Rq w' b q.2 ∧ Apb b w w'
structure VS (b V : Nat) (W w : World) (l : List Tk) (cs : Array Value) : Prop where
 rq : Rq w b l
 ap : Apb b W w
 bk : Bk w V cs 32
def VW (b V : Nat) (W w : World) (l : List Tk) (cs : Value → Array Value) (e : List Nd) : Prop := ∃ wv, VS b V W w l (cs wv) ∧ OwnG w (V + 1) 66 5 rdN wv e
def VP (b V Bp : Nat) (W w : World) (l : List Tk) (cs : Value → Value → Array Value) (e : List Nd) (pk : List Int) : Prop := ∃ wv pv, VS b V W w l (cs wv pv) ∧ OwnG w (V + 1) 66 5 rdN wv e ∧ (∀ k, wv.ownBlock = some k → k < Bp) ∧ OwnG w Bp 3 1 rdI pv pk ∧ V < Bp ∧ Bp ≤ w.heap.size
theorem ret_vw {fn : Func} {R : Ending → World → Prop} {F : Act} {w : World} {t : Tmp} {b : Nat} {x : Vm} (hres : fn.results = #[.cell t 32]) (ht : Reg.slot F t = .pointer (some ⟨b, 0, none⟩))
 (hb : Bk w b #[.string x.name, .string x.frm, .string x.wth, .int .i64 x.on0, .int .i64 x.on1, .slice x.whr.A x.whr.n x.whr.c, .slice x.pick.A x.pick.n x.pick.c, .bool x.grp, .slice x.aggs.A x.aggs.n x.aggs.c] 32) (hd : F.defers = [])
 (hR : R (.returned x.w) w) : bodyPost Tryz.prog fn R .ret F w := by
 have h0 : w.cell? ⟨b, 0, none⟩ = some (.string x.name) := hb.cell 0
 have h1 : w.cell? ⟨b, 1, none⟩ = some (.string x.frm) := hb.cell 1
 have h2 : w.cell? ⟨b, 2, none⟩ = some (.string x.wth) := hb.cell 2
 have h3 : w.cell? ⟨b, 3, none⟩ = some (.int .i64 x.on0) := hb.cell 3
 have h4 : w.cell? ⟨b, 4, none⟩ = some (.int .i64 x.on1) := hb.cell 4
 have h5 : w.cell? ⟨b, 5, none⟩ = some (.slice x.whr.A x.whr.n x.whr.c) := hb.cell 5
 have h6 : w.cell? ⟨b, 6, none⟩ = some (.slice x.pick.A x.pick.n x.pick.c) := hb.cell 6
 have h7 : w.cell? ⟨b, 7, none⟩ = some (.bool x.grp) := hb.cell 7
 have h8 : w.cell? ⟨b, 8, none⟩ = some (.slice x.aggs.A x.aggs.n x.aggs.c) := hb.cell 8
 refine bodyPost_ret (v := x.w) ?_ hd hR
 have ht' : F.tmps[t]?.getD undef = .pointer (some ⟨b, 0, none⟩) := by simpa [Reg.slot] using ht
 simp [results, hres, ht', go_sem, h0, h1, h2, h3, h4, h5, h6, h7, h8]
set_option maxHeartbeats 8000000 in
theorem view_cR (b : Nat) (l : List Tk) (w : World) (hR : Rq w b l) (hG : GL w) (hGb : GLt b) :
 Calls Tryz.prog 102 #[.pointer (some ⟨b, 0, none⟩)] w fun e w' => ViewS b w (viewP l) e w' := by
 have hbs := hR.lt
 obtain ⟨S, hS⟩ : ∃ S, ViewS b w (viewP l) = S := ⟨_, rfl⟩
 rw [hS]
 unfold viewP at hS
 have HS := Lib.hid hS
 have HG := Lib.hid hG
 have Hgb := Lib.hid hGb
 have hmf : ∀ (fn : Fn) (first cap : Array Value) (w : World), (Instr.makeFunc fn first cap).run Tryz.prog w = .ok (.func fn first cap) w := fun _ _ _ _ => rfl
 obtain ⟨W, hW⟩ : ∃ W, (w.alloc (.cells #[.pointer (some ⟨b, 0, none⟩)] 154)).alloc (.cells #[.string emp, .string emp, .string emp, .int .i64 0, .int .i64 0, .slice none 0 0, .slice none 0 0, .bool false, .slice none 0 0] 32) = W := ⟨_, rfl⟩
 have hz : W.heap.size = w.heap.size + 2 := by rw [← hW]; simp
 have HBx : Hid (Bk W w.heap.size #[.pointer (some ⟨b, 0, none⟩)] 154) := Lib.hid (by rw [← hW]; exact (Bk.new w _ _).after (below_one _ _) (by simp))
 have HBt : Hid (Bk W (w.heap.size + 1) #[.string emp, .string emp, .string emp, .int .i64 0, .int .i64 0, .slice none 0 0, .slice none 0 0, .bool false, .slice none 0 0] 32) := Lib.hid (by rw [← hW]; have := Bk.new (w.alloc (.cells #[.pointer (some ⟨b, 0, none⟩)] 154)) #[.string emp, .string emp, .string emp, .int .i64 0, .int .i64 0, .slice none 0 0, .slice none 0 0, .bool false, .slice none 0 0] 32; simpa using this)
 have HR0 : Hid (Rq W b l) := Lib.hid (by rw [← hW]; exact (hR.alloc _).alloc _)
 have HA0 : Hid (Apb b w W) := Lib.hid (by rw [← hW]; exact ((Apb.refl b w).alloc _).alloc _)
 have p0 : W.cell? ⟨w.heap.size, 0, none⟩ = some (.pointer (some ⟨b, 0, none⟩)) := HBx.out.cell 0
 have HW := Lib.hid hW
 clear hR hG hGb hS hW
 go_enter Tryz.func102, Tryz.ntmps102
 go_wp2_with fail
 rw [HW.out]
 refine (name_cR b l W HR0.out).mono ?_
 rintro e w1 hn
 cases hq : nameP l with
 | none =>
   rw [hq] at hn HS
   obtain ⟨rfl, hb⟩ := hn
   refine ⟨rfl, ?_⟩
   rw [← HS.out]
   exact ⟨rfl, HA0.out.trans hb⟩
 | some a =>
   rw [hq] at hn HS
   obtain ⟨rfl, hr, hb⟩ := hn
   obtain ⟨nm, l1⟩ := a
   simp only [Option.bind_some] at HS
   have hlen := hr.len
   have hzW : W.heap.size ≤ w1.heap.size := hb.size
   have Hr1 := Lib.hid hr
   have Hb1 := Lib.hid hb
   have HBx1 := Lib.hid (HBx.out.kept hb (by omega))
   have p1 : w1.cell? ⟨w.heap.size, 0, none⟩ = some (.pointer (some ⟨b, 0, none⟩)) := HBx1.out.cell 0
   have hx1 := HBx1.out.lt
   have HC1 := Lib.hid (Bk.new w1 #[.string nm, .string emp, .string emp, .int .i64 0, .int .i64 0, .slice none 0 0, .slice none 0 0, .bool false, .slice none 0 0] 32)
   obtain ⟨V, hV⟩ : ∃ V, w1.heap.size = V := ⟨_, rfl⟩
   have hzV : (w1.alloc (.cells #[.string nm, .string emp, .string emp, .int .i64 0, .int .i64 0, .slice none 0 0, .slice none 0 0, .bool false, .slice none 0 0] 32)).heap.size = V + 1 := by simp; exact hV
   have HzV := Lib.hid hzV
   have HVe := Lib.hid hV
   clear hq hr hb HR0 hzV p0 HW hV HBx1
   go_wp2_with fail
   have hV := HVe.out
   rw [hV]
   rw [hV] at HC1 hzW hx1
   refine (must1_c b (V + 1) l1 w_from (by decide) _ HzV.out (Hr1.out.alloc _)).mono ?_
   rintro e w2 hn
   clear hV
   cases hq : needP w_from l1 with
   | none =>
     rw [hq] at hn HS
     obtain ⟨rfl, hb⟩ := hn
     refine ⟨rfl, ?_⟩
     rw [← HS.out]
     exact ⟨rfl, (HA0.out.trans (Hb1.out.alloc _)).trans hb⟩
   | some l2 =>
     have hll := need_len hq
     rw [hq] at hn HS
     simp only [Option.bind_some] at HS
     obtain ⟨rfl, hr, hb⟩ := hn
     have hbV : b < V := by omega
     have HS2 : Hid (VS b V W w2 l2 #[.string nm, .string emp, .string emp, .int .i64 0, .int .i64 0, .slice none 0 0, .slice none 0 0, .bool false, .slice none 0 0]) := Lib.hid ⟨hr, (Hb1.out.alloc _).trans hb, HC1.out.kept hb (by omega)⟩
     have p2 : w2.cell? ⟨w.heap.size, 0, none⟩ = some (.pointer (some ⟨b, 0, none⟩)) := (HBx.out.kept HS2.out.ap (by omega)).cell 0
     clear hq hr hb p1 HzV HC1 Hr1 hll Hb1
     go_wp2_with fail
     refine (name_cR b l2 w2 HS2.out.rq).mono ?_
     rintro e w3 hn
     cases hq : nameP l2 with
     | none =>
       rw [hq] at hn HS
       obtain ⟨rfl, hb⟩ := hn
       refine ⟨rfl, ?_⟩
       rw [← HS.out]
       exact ⟨rfl, HA0.out.trans (HS2.out.ap.trans hb)⟩
     | some a =>
       obtain ⟨fr, l3⟩ := a
       rw [hq] at hn HS
       simp only [Option.bind_some] at HS
       obtain ⟨rfl, hr, hb⟩ := hn
       have HK3 := Lib.hid (HS2.out.bk.kept hb (by omega))
       have HA3 := Lib.hid (HS2.out.ap.trans hb)
       have Hr3 := Lib.hid hr
       have c1 : w3.cell? ⟨V, 1, none⟩ = some (.string emp) := HK3.out.cell 1
       have f1 := HK3.out.thaw 1
       have hV3 := HK3.out.lt
       have p3 : w3.cell? ⟨w.heap.size, 0, none⟩ = some (.pointer (some ⟨b, 0, none⟩)) := (HBx.out.kept HA3.out (by omega)).cell 0
       clear hq hr hb p2 HS2
       go_upto_if 15 with fail
       have hz3 : (w3.setCell ⟨V, 1, none⟩ (.string fr)).heap.size = w3.heap.size := by simp [World.setCell]
       refine (has1_c b w3.heap.size l3 w_join (by decide) _ hz3 (Hr3.out.own hbV 1 (.string fr))).mono ?_
       rintro e w4 ⟨rfl, hr, hb⟩
       have HS4 : Hid (VS b V W w4 (takeP w_join l3).2 #[.string nm, .string fr, .string emp, .int .i64 0, .int .i64 0, .slice none 0 0, .slice none 0 0, .bool false, .slice none 0 0]) := Lib.hid ⟨hr, (HA3.out.own hzW 1 _).trans hb, (HK3.out.set 1 (.string fr)).kept hb (by omega)⟩
       have p4 : w4.cell? ⟨w.heap.size, 0, none⟩ = some (.pointer (some ⟨b, 0, none⟩)) := (HBx.out.kept HS4.out.ap (by omega)).cell 0
       clear hr hb p3 c1 f1 hV3 HK3 HA3 Hr3 hz3
       go_upto_if 15 with fail
       go_cut [15] (fun _ wx => ∃ (wt : ByteArray) (o0 o1 : Int) (l4 : List Tk), Hid (joinP l3 = some ((wt, o0, o1), l4)) ∧ Hid (VS b V W wx l4 #[.string nm, .string fr, .string wt, .int .i64 o0, .int .i64 o1, .slice none 0 0, .slice none 0 0, .bool false, .slice none 0 0]))
       case first =>
        cases hq : (takeP w_join l3).1
        · have hj : joinP l3 = some ((emp, 0, 0), (takeP w_join l3).2) := by unfold joinP; rw [hq, take_no hq]; rfl
          have Hj := Lib.hid hj
          clear hq hj
          go_wp2_with fail
          go_meet
          exact ⟨emp, 0, 0, _, Hj, HS4⟩
        · obtain ⟨l5, hl5⟩ : ∃ l5, (takeP w_join l3).2 = l5 := ⟨_, rfl⟩
          have hj : joinP l3 = (nameP l5).bind fun a => (onP a.2).map fun y => ((a.1, y.1.1, y.1.2), y.2) := by
           unfold joinP onP
           rw [hq, hl5]
           simp only [if_true]
           cases nameP l5 with
           | none => rfl
           | some a =>
             simp only [Option.bind_some]
             cases needP w_on a.2 with
             | none => rfl
             | some r =>
               simp only [Option.bind_some]
               cases colP r with
               | none => rfl
               | some x =>
                 simp only [Option.bind_some]
                 cases needP s_eq x.2 with
                 | none => rfl
                 | some q =>
                   simp only [Option.bind_some]
                   cases colP q <;> rfl
          rw [hl5] at HS4
          have Hj := Lib.hid hj
          clear hq hj hl5
          go_wp2_with fail
          refine (name_cR b l5 w4 HS4.out.rq).mono ?_
          rintro e w5 hn
          cases hq : nameP l5 with
          | none =>
            rw [hq] at hn
            obtain ⟨rfl, hb⟩ := hn
            refine ⟨rfl, ?_⟩
            have h1 := HS.out
            rw [Hj.out, hq] at h1
            rw [← h1]
            exact ⟨rfl, HA0.out.trans (HS4.out.ap.trans hb)⟩
          | some a =>
            obtain ⟨wt, l6⟩ := a
            rw [hq] at hn
            obtain ⟨rfl, hr, hb⟩ := hn
            have hj : joinP l3 = (onP l6).map fun y => ((wt, y.1.1, y.1.2), y.2) := by rw [Hj.out, hq]; rfl
            have Hj2 := Lib.hid hj
            have HS5 : Hid (VS b V W w5 l6 #[.string nm, .string fr, .string emp, .int .i64 0, .int .i64 0, .slice none 0 0, .slice none 0 0, .bool false, .slice none 0 0]) := Lib.hid ⟨hr, HS4.out.ap.trans hb, HS4.out.bk.kept hb (by omega)⟩
            have p5 : w5.cell? ⟨w.heap.size, 0, none⟩ = some (.pointer (some ⟨b, 0, none⟩)) := (HBx.out.kept HS5.out.ap (by omega)).cell 0
            have c2 : w5.cell? ⟨V, 2, none⟩ = some (.string emp) := HS5.out.bk.cell 2
            have f2 := HS5.out.bk.thaw 2
            have hV5 := HS5.out.bk.lt
            clear hq hr hb hj Hj HS4 p4
            go_wp2_with fail
            refine (on_cR b l6 _ (HS5.out.rq.own hbV 2 (.string wt))).mono ?_
            rintro e w6 hn
            have hA6 := HS5.out.ap.own hzW 2 (.string wt)
            cases hq : onP l6 with
            | none =>
              rw [hq] at hn
              obtain ⟨rfl, hb⟩ := hn
              refine ⟨rfl, ?_⟩
              have h1 := HS.out
              rw [Hj2.out, hq] at h1
              rw [← h1]
              exact ⟨rfl, HA0.out.trans (hA6.trans hb)⟩
            | some y =>
              obtain ⟨⟨o0, o1⟩, l7⟩ := y
              rw [hq] at hn
              obtain ⟨rfl, hr, hb⟩ := hn
              have Hj3 : Hid (joinP l3 = some ((wt, o0, o1), l7)) := Lib.hid (by rw [Hj2.out, hq]; rfl)
              have HS6 : Hid (VS b V W w6 l7 #[.string nm, .string fr, .string wt, .int .i64 0, .int .i64 0, .slice none 0 0, .slice none 0 0, .bool false, .slice none 0 0]) := Lib.hid ⟨hr, hA6.trans hb, (HS5.out.bk.set 2 (.string wt)).kept hb (by omega)⟩
              have c3 : w6.cell? ⟨V, 3, none⟩ = some (.int .i64 0) := HS6.out.bk.cell 3
              have c4 : w6.cell? ⟨V, 4, none⟩ = some (.int .i64 0) := HS6.out.bk.cell 4
              have f3 := HS6.out.bk.thaw 3
              have f4 := HS6.out.bk.thaw 4
              have hV6 := HS6.out.bk.lt
              clear hq hr hb hA6 Hj2 HS5 p5 c2 f2 hV5
              go_wp2_with fail
              go_meet
              exact ⟨wt, o0, o1, l7, Hj3, Lib.hid ⟨(HS6.out.rq.own hbV 3 _).own hbV 4 _, (HS6.out.ap.own hzW 3 _).own hzW 4 _, (HS6.out.bk.set 3 (.int .i64 o0)).set 4 (.int .i64 o1)⟩⟩
       case rest =>
        obtain ⟨wt, o0, o1, l4, hj, hs⟩ := hcut
        rw [hj.out] at HS
        simp only [Option.bind_some] at HS
        clear hj HS4 p4
        have p5 : wc.cell? ⟨w.heap.size, 0, none⟩ = some (.pointer (some ⟨b, 0, none⟩)) := (HBx.out.kept hs.out.ap (by omega)).cell 0
        clear HVe
        go_upto_if 24 with fail
        refine (has1_c b wc.heap.size l4 w_where (by decide) wc rfl hs.out.rq).mono ?_
        rintro e w5 ⟨rfl, hr, hb⟩
        have HS5 : Hid (VS b V W w5 (takeP w_where l4).2 #[.string nm, .string fr, .string wt, .int .i64 o0, .int .i64 o1, .slice none 0 0, .slice none 0 0, .bool false, .slice none 0 0]) := Lib.hid ⟨hr, hs.out.ap.trans hb, hs.out.bk.kept hb (by omega)⟩
        have p6 : w5.cell? ⟨w.heap.size, 0, none⟩ = some (.pointer (some ⟨b, 0, none⟩)) := (HBx.out.kept HS5.out.ap (by omega)).cell 0
        clear hr hb p5 hs
        go_upto_if 24 with fail
        go_cut [24] (fun _ wx => ∃ (es : List Nd) (l5 : List Tk), Hid (whereP l4 = some (es, l5)) ∧ Hid (VW b V W wx l5 (fun wv => #[.string nm, .string fr, .string wt, .int .i64 o0, .int .i64 o1, wv, .slice none 0 0, .bool false, .slice none 0 0]) es))
        case first =>
         cases hq : (takeP w_where l4).1
         · have hj : whereP l4 = some ([], (takeP w_where l4).2) := by unfold whereP; rw [hq, take_no hq]; rfl
           have Hj := Lib.hid hj
           clear hq hj
           go_wp2_with fail
           go_meet
           exact ⟨[], _, Hj, Lib.hid ⟨_, HS5.out, OwnG.nil _ _ _⟩⟩
         · obtain ⟨l6, hl6⟩ : ∃ l6, (takeP w_where l4).2 = l6 := ⟨_, rfl⟩
           have hj : whereP l4 = exprP l6 := by unfold whereP; rw [hq, hl6]; rfl
           rw [hl6] at HS5
           have Hj := Lib.hid hj
           clear hq hj hl6
           go_wp2_with fail
           refine (expr_cR b l6 w5 HS5.out.rq (HG.out.below ((HA0.out.trans HS5.out.ap).below hbs) Hgb.out) Hgb.out).mono ?_
           rintro e w6 hn
           cases hq : exprP l6 with
           | none =>
             rw [hq] at hn
             obtain ⟨rfl, hb⟩ := hn
             refine ⟨rfl, ?_⟩
             have h1 := HS.out
             rw [Hj.out, hq] at h1
             rw [← h1]
             exact ⟨rfl, HA0.out.trans (HS5.out.ap.trans hb)⟩
           | some q =>
             obtain ⟨es, l7⟩ := q
             rw [hq] at hn
             obtain ⟨wv, rfl, ho, hr, hb⟩ := hn
             have Hj2 : Hid (whereP l4 = some (es, l7)) := Lib.hid (by rw [Hj.out, hq])
             have hlV : V < w5.heap.size := HS5.out.bk.lt
             have HO6 := Lib.hid (ho.mono (B' := V + 1) (by omega))
             have HS6 : Hid (VS b V W w6 l7 #[.string nm, .string fr, .string wt, .int .i64 o0, .int .i64 o1, .slice none 0 0, .slice none 0 0, .bool false, .slice none 0 0]) := Lib.hid ⟨hr, HS5.out.ap.trans hb, HS5.out.bk.kept hb (by omega)⟩
             have c5 : w6.cell? ⟨V, 5, none⟩ = some (.slice none 0 0) := HS6.out.bk.cell 5
             have f5 := HS6.out.bk.thaw 5
             have hV6 := HS6.out.bk.lt
             clear hq hr hb ho Hj HS5 p6
             obtain ⟨Aw, cw, hwv⟩ := HO6.out.isSlice
             subst hwv
             go_wp2_with fail
             go_meet
             exact ⟨es, l7, Hj2, Lib.hid ⟨_, ⟨HS6.out.rq.own hbV 5 _, HS6.out.ap.own hzW 5 _, HS6.out.bk.set 5 (.slice Aw es.length cw)⟩, HO6.out.same fun k hk => Below.heap_setCell _ _ _ _ (by have := (HO6.out.lt k hk).1; show k ≠ V; omega)⟩⟩
        case rest =>
         obtain ⟨es, l5, hj, hs⟩ := hcut
         rw [hj.out] at HS
         simp only [Option.bind_some] at HS
         obtain ⟨wv, hvs, how⟩ := hs.out
         obtain ⟨Aw, cw, hwv⟩ := how.isSlice
         subst hwv
         have HVS := Lib.hid hvs
         have HOW := Lib.hid how
         have p7 : wc.cell? ⟨w.heap.size, 0, none⟩ = some (.pointer (some ⟨b, 0, none⟩)) := (HBx.out.kept hvs.ap (by omega)).cell 0
         clear hj HS5 p6 hs hvs how
         go_upto_region 10 with fail
         refine (must1_c b wc.heap.size l5 w_pick (by decide) wc rfl HVS.out.rq).mono ?_
         rintro e w6 hn
         cases hq : needP w_pick l5 with
         | none =>
           rw [hq] at hn HS
           obtain ⟨rfl, hb⟩ := hn
           refine ⟨rfl, ?_⟩
           rw [← HS.out]
           exact ⟨rfl, HA0.out.trans (HVS.out.ap.trans hb)⟩
         | some l6 =>
           rw [hq] at hn HS
           simp only [Option.bind_some] at HS
           obtain ⟨rfl, hr, hb⟩ := hn
           have HS6 : Hid (VS b V W w6 l6 #[.string nm, .string fr, .string wt, .int .i64 o0, .int .i64 o1, .slice Aw es.length cw, .slice none 0 0, .bool false, .slice none 0 0]) := Lib.hid ⟨hr, HVS.out.ap.trans hb, HVS.out.bk.kept hb (by omega)⟩
           have HO6 := Lib.hid (HOW.out.kept hb (by omega))
           have p8 : w6.cell? ⟨w.heap.size, 0, none⟩ = some (.pointer (some ⟨b, 0, none⟩)) := (HBx.out.kept HS6.out.ap (by omega)).cell 0
           have hV6 : V < w6.heap.size := HS6.out.bk.lt
           have hx6 : w.heap.size < w6.heap.size := by omega
           clear hq hr hb p7 HVS HOW
           go_upto_region 10 with fail
           go_cut [39] (fun s wx => s = .bool (!(l6.isEmpty || (takeP w_group l6).1)) ∧ Hid (VS b V W wx l6 #[.string nm, .string fr, .string wt, .int .i64 o0, .int .i64 o1, .slice Aw es.length cw, .slice none 0 0, .bool false, .slice none 0 0]) ∧ Hid (OwnG wx (V + 1) 66 5 rdN (.slice Aw es.length cw) es))
           case first =>
            have HD := Lib.hid (done_c b l6 w6 HS6.out.rq)
            cases hq : l6.isEmpty
            · rw [hq] at HD
              have HX := Lib.hid (sees1_c b w6.heap.size l6 w_group (by decide) w6 rfl HS6.out.rq)
              obtain ⟨G, hG⟩ : ∃ G, (takeP w_group l6).1 = G := ⟨_, rfl⟩
              rw [hG] at HX
              have HGe := Lib.hid hG
              have Hq := Lib.hid hq
              clear hG hq
              go_wp2_with fail
              refine HD.out.mono ?_
              rintro e w7 ⟨rfl, rfl⟩
              go_wp2_with fail
              refine HX.out.mono ?_
              rintro e w8 ⟨rfl, rfl⟩
              go_wp2_with fail
              go_meet
              exact ⟨by rw [Hq.out, HGe.out]; cases G <;> rfl, Lib.hid ⟨HS6.out.rq.alloc _, HS6.out.ap.alloc _, HS6.out.bk.after (below_one _ _) hV6⟩, HO6.out.alloc _⟩
            · rw [hq] at HD
              have Hq := Lib.hid hq
              clear hq
              go_wp2_with fail
              refine HD.out.mono ?_
              rintro e w7 ⟨rfl, rfl⟩
              go_wp2_with fail
              go_meet
              exact ⟨by rw [Hq.out]; rfl, HS6, HO6⟩
           case rest =>
            obtain ⟨rfl, hs, ho⟩ := hcut
            have p9 : wc.cell? ⟨w.heap.size, 0, none⟩ = some (.pointer (some ⟨b, 0, none⟩)) := (HBx.out.kept hs.out.ap (by omega)).cell 0
            have hV9 : V < wc.heap.size := hs.out.bk.lt
            clear HS6 HO6 p8
            go_upto_if 39 with fail
            go_cut [39] (fun _ wx => ∃ (pk : List Int) (l7 : List Tk) (Bp : Nat), Hid (picksP l6 = some (pk, l7)) ∧ Hid (VP b V Bp W wx l7 (fun wv pv => #[.string nm, .string fr, .string wt, .int .i64 o0, .int .i64 o1, wv, pv, .bool false, .slice none 0 0]) es pk))
            case first =>
             cases hq : (l6.isEmpty || (takeP w_group l6).1)
             · have hj : picksP l6 = sepP colP l6 := by unfold picksP; rw [hq]; rfl
               have Hj := Lib.hid hj
               have HI : Hid (VIP b V w.heap.size wc.heap.size (csP nm fr wt o0 o1 (.slice Aw es.length cw)) W wc wc l6 []) := Lib.hid ⟨hs.out.rq, hs.out.ap, ⟨_, hs.out.bk, OwnG.nil _ _ _⟩, fun _ _ _ _ => rfl, HBx.out.kept hs.out.ap (by omega), by simpa using hs.out.rq.len, by omega, ⟨hzW, by omega⟩, by omega, hV9, Nat.le_refl _⟩
               clear hq hj
               go_wp2_with fail
               refine (list_cR colP (fun l a h => Nat.le_of_lt (col_len (a := a.1) (r := a.2) h)) (VIP b V w.heap.size wc.heap.size (csP nm fr wt o0 o1 (.slice Aw es.length cw)) W wc) (Apb b W) b 150 _ (fun _ _ _ h => h.rq) (fun _ _ _ _ _ h1 h2 h3 h4 => h1.keep h2 h3 h4) (fun u l acc h => pick1_c nm fr wt o0 o1 (.slice Aw es.length cw) b V w.heap.size wc.heap.size W wc u l acc h) (fun u => by kernel_rfl) l6 [] wc HI.out).mono ?_
               rintro e w7 hn
               cases hq : sepP colP l6 with
               | none =>
                 rw [hq] at hn
                 obtain ⟨rfl, hb⟩ := hn
                 refine ⟨rfl, ?_⟩
                 have h1 := HS.out
                 rw [Hj.out, hq] at h1
                 rw [← h1]
                 exact ⟨rfl, HA0.out.trans hb⟩
               | some q =>
                 obtain ⟨pk, l7⟩ := q
                 rw [hq] at hn
                 obtain ⟨rfl, hi⟩ := hn
                 rw [List.nil_append] at hi
                 have Hj2 : Hid (picksP l6 = some (pk, l7)) := Lib.hid (by rw [Hj.out, hq])
                 have Hi := Lib.hid hi
                 clear hq hi Hj HI
                 go_wp2_with fail
                 go_meet
                 obtain ⟨pv, hpb, hpo⟩ := Hi.out.sl
                 refine ⟨pk, l7, wc.heap.size, Hj2, Lib.hid ⟨_, pv, ⟨Hi.out.rq, Hi.out.ap, hpb⟩, ho.out.same fun k hk => ?_, fun k hk => (ho.out.lt k hk).2, hpo, hV9, Hi.out.sz⟩⟩
                 have := ho.out.lt k hk
                 exact Hi.out.kp k this.2 (by omega) (by omega)
             · have hj : picksP l6 = some ([], l6) := by unfold picksP; rw [hq]; rfl
               have Hj := Lib.hid hj
               clear hq hj
               go_wp2_with fail
               go_meet
               exact ⟨[], l6, wc.heap.size, Hj, Lib.hid ⟨_, _, hs.out, ho.out, fun k hk => (ho.out.lt k hk).2, OwnG.nil _ _ _, hV9, Nat.le_refl _⟩⟩
            case rest =>
             obtain ⟨pk, l7, Bp, hj, hvp⟩ := hcut
             rw [hj.out] at HS
             simp only [Option.bind_some] at HS
             clear hj p9 hs ho hV9
             obtain ⟨wv, pv, hvs, how, hwb, hpo, hVB, hBs⟩ := hvp.out
             obtain ⟨Aw2, cw2, hwv⟩ := how.isSlice
             obtain ⟨Ap, cp, hpv⟩ := hpo.isSlice
             subst hwv hpv
             have HVS := Lib.hid hvs
             have HOW := Lib.hid how
             have HPO := Lib.hid (hpo.mono (B' := V + 1) hVB)
             have p9 : wc.cell? ⟨w.heap.size, 0, none⟩ = some (.pointer (some ⟨b, 0, none⟩)) := (HBx.out.kept hvs.ap (by omega)).cell 0
             clear hvp hvs how hwb hpo hVB hBs
             go_upto_region 13 with fail
             refine (has1_c b wc.heap.size l7 w_group (by decide) wc rfl HVS.out.rq).mono ?_
             rintro e w7 ⟨rfl, hr, hb⟩
             have haE : aggsP l7 = if (takeP w_group l7).1 then (if (takeP w_group l7).2.isEmpty then some ((true, []), []) else (sepP aggP (takeP w_group l7).2).map fun a => ((true, a.1), a.2)) else some ((false, []), l7) := rfl
             have hno : (takeP w_group l7).1 = false → (takeP w_group l7).2 = l7 := fun h => take_no h
             obtain ⟨G, hG⟩ : ∃ G, (takeP w_group l7).1 = G := ⟨_, rfl⟩
             obtain ⟨l8, hl8⟩ : ∃ l8, (takeP w_group l7).2 = l8 := ⟨_, rfl⟩
             rw [hG, hl8] at haE
             rw [hG, hl8] at hno
             rw [hl8] at hr
             have Hno := Lib.hid hno
             have HaE := Lib.hid haE
             have HGe := Lib.hid hG
             have HS7 : Hid (VS b V W w7 l8 #[.string nm, .string fr, .string wt, .int .i64 o0, .int .i64 o1, .slice Aw2 es.length cw2, .slice Ap pk.length cp, .bool false, .slice none 0 0]) := Lib.hid ⟨hr, HVS.out.ap.trans hb, HVS.out.bk.kept hb (by omega)⟩
             have HW7 := Lib.hid (HOW.out.kept hb (by omega))
             have HP7 := Lib.hid (HPO.out.kept hb (by omega))
             have p10 : w7.cell? ⟨w.heap.size, 0, none⟩ = some (.pointer (some ⟨b, 0, none⟩)) := (HBx.out.kept HS7.out.ap (by omega)).cell 0
             have c7 : w7.cell? ⟨V, 7, none⟩ = some (.bool false) := HS7.out.bk.cell 7
             have f7 := HS7.out.bk.thaw 7
             have hV7 := HS7.out.bk.lt
             have hx7 : w.heap.size < w7.heap.size := by omega
             rw [hG]
             clear haE hno hG hl8 hr hb HVS HOW HPO p9
             go_upto_region 13 with fail
             have HS8 : Hid (VS b V W (w7.setCell ⟨V, 7, none⟩ (.bool G)) l8 #[.string nm, .string fr, .string wt, .int .i64 o0, .int .i64 o1, .slice Aw2 es.length cw2, .slice Ap pk.length cp, .bool G, .slice none 0 0]) := Lib.hid ⟨HS7.out.rq.own hbV 7 _, HS7.out.ap.own hzW 7 _, HS7.out.bk.set 7 (.bool G)⟩
             have HW8 : Hid (OwnG (w7.setCell ⟨V, 7, none⟩ (.bool G)) (V + 1) 66 5 rdN (.slice Aw2 es.length cw2) es) := Lib.hid (HW7.out.same fun k hk => Below.heap_setCell _ _ _ _ (by have := (HW7.out.lt k hk).1; show k ≠ V; omega))
             have HP8 : Hid (OwnG (w7.setCell ⟨V, 7, none⟩ (.bool G)) (V + 1) 3 1 rdI (.slice Ap pk.length cp) pk) := Lib.hid (HP7.out.same fun k hk => Below.heap_setCell _ _ _ _ (by have := (HP7.out.lt k hk).1; show k ≠ V; omega))
             clear HS7 HW7 HP7
             go_cut [53] (fun s wx => ∃ D : Bool, s = .bool D ∧ Hid (D = (G && !l8.isEmpty)) ∧ Hid (VS b V W wx l8 #[.string nm, .string fr, .string wt, .int .i64 o0, .int .i64 o1, .slice Aw2 es.length cw2, .slice Ap pk.length cp, .bool G, .slice none 0 0]) ∧ Hid (OwnG wx (V + 1) 66 5 rdN (.slice Aw2 es.length cw2) es) ∧ Hid (OwnG wx (V + 1) 3 1 rdI (.slice Ap pk.length cp) pk))
             case first =>
              have HD := Lib.hid (done_c b l8 _ HS8.out.rq)
              cases G
              · go_wp2_with fail
                go_meet
                exact ⟨_, rfl, Lib.hid (by rfl), HS8, HW8, HP8⟩
              · go_wp2_with fail
                refine HD.out.mono ?_
                rintro e w8 ⟨rfl, rfl⟩
                go_wp2_with fail
                go_meet
                exact ⟨_, rfl, Lib.hid (by simp), HS8, HW8, HP8⟩
             case rest =>
              obtain ⟨D, rfl, hD, hs, how, hpo⟩ := hcut
              have p11 : wc.cell? ⟨w.heap.size, 0, none⟩ = some (.pointer (some ⟨b, 0, none⟩)) := (HBx.out.kept hs.out.ap (by omega)).cell 0
              have hV11 : V < wc.heap.size := hs.out.bk.lt
              clear HS8 HW8 HP8 p10 c7 f7 hV7 hx7
              go_upto_if 53 with fail
              go_cut [53] (fun _ wx => ∃ (ag : List Ag) (l9 : List Tk) (wv pv av : Value), Hid (aggsP l7 = some ((G, ag), l9)) ∧ Hid (VS b V W wx l9 #[.string nm, .string fr, .string wt, .int .i64 o0, .int .i64 o1, wv, pv, .bool G, av]) ∧ Hid (OwnG wx (V + 1) 66 5 rdN wv es) ∧ Hid (OwnG wx (V + 1) 3 1 rdI pv pk) ∧ Hid (OwnG wx (V + 1) 74 2 rdAg av ag))
              case first =>
               cases D
               · have Hj : Hid (aggsP l7 = some ((G, []), l8)) := Lib.hid (by
                  rw [HaE.out]
                  have h1 := hD.out
                  cases G with
                  | false => rw [Hno.out rfl]; rfl
                  | true =>
                    cases l8 with
                    | nil => rfl
                    | cons t r => cases h1)
                 go_wp2_with fail
                 go_meet
                 exact ⟨[], l8, _, _, _, Hj, hs, how, hpo, OwnG.nil _ _ _⟩
               · have hG1 : G = true := by
                  have h1 := hD.out
                  cases G with
                  | false => cases h1
                  | true => rfl
                 have hq : l8.isEmpty = false := by
                  have h1 := hD.out
                  rw [hG1] at h1
                  cases l8 with
                  | nil => cases h1
                  | cons t r => rfl
                 subst hG1
                 · have Hj : Hid (aggsP l7 = (sepP aggP l8).map fun a => ((true, a.1), a.2)) := Lib.hid (by rw [HaE.out, hq]; rfl)
                   have HI : Hid (VIA b V w.heap.size wc.heap.size (csA nm fr wt o0 o1 (.slice Aw2 es.length cw2) (.slice Ap pk.length cp)) W wc wc l8 []) := Lib.hid ⟨hs.out.rq, hs.out.ap, ⟨_, hs.out.bk, OwnG.nil _ _ _⟩, fun _ _ _ _ => rfl, HBx.out.kept hs.out.ap (by omega), by simpa using hs.out.rq.len, by omega, ⟨hzW, by omega⟩, by omega, hV11, Nat.le_refl _⟩
                   clear hq
                   go_wp2_with fail
                   refine (list_cR aggP (fun l a h => Nat.le_of_lt (agg_len h)) (VIA b V w.heap.size wc.heap.size (csA nm fr wt o0 o1 (.slice Aw2 es.length cw2) (.slice Ap pk.length cp)) W wc) (Apb b W) b 152 _ (fun _ _ _ h => h.rq) (fun _ _ _ _ _ h1 h2 h3 h4 => h1.keep h2 h3 h4) (fun u l acc h => agg1_c nm fr wt o0 o1 (.slice Aw2 es.length cw2) (.slice Ap pk.length cp) b V w.heap.size wc.heap.size W wc u l acc h) (fun u => by kernel_rfl) l8 [] wc HI.out).mono ?_
                   rintro e w8 hn
                   cases hq : sepP aggP l8 with
                   | none =>
                     rw [hq] at hn
                     obtain ⟨rfl, hb⟩ := hn
                     refine ⟨rfl, ?_⟩
                     have h1 := HS.out
                     rw [Hj.out, hq] at h1
                     rw [← h1]
                     exact ⟨rfl, HA0.out.trans hb⟩
                   | some q =>
                     obtain ⟨ag, l9⟩ := q
                     rw [hq] at hn
                     obtain ⟨rfl, hi⟩ := hn
                     rw [List.nil_append] at hi
                     have Hj2 : Hid (aggsP l7 = some ((true, ag), l9)) := Lib.hid (by rw [Hj.out, hq]; rfl)
                     have Hi := Lib.hid hi
                     clear hq hi Hj HI
                     go_wp2_with fail
                     go_meet
                     obtain ⟨av, hpb, hao⟩ := Hi.out.sl
                     refine ⟨ag, l9, _, _, av, Hj2, Lib.hid ⟨Hi.out.rq, Hi.out.ap, hpb⟩, how.out.same fun k hk => ?_, hpo.out.same fun k hk => ?_, hao.mono (by omega)⟩
                     · have := how.out.lt k hk
                       exact Hi.out.kp k this.2 (by omega) (by omega)
                     · have := hpo.out.lt k hk
                       exact Hi.out.kp k this.2 (by omega) (by omega)
              case rest =>
               obtain ⟨ag, l9, wv, pv, av, hj, hvs, how2, hpo2, hao⟩ := hcut
               rw [hj.out] at HS
               simp only [Option.bind_some] at HS
               clear hj p11 hs how hpo hV11
               obtain ⟨Aw3, cw3, hwv, hinw, hbw⟩ := how2.out.sx nOk.len
               obtain ⟨Ap3, cp3, hpv, hinp, hbp⟩ := hpo2.out.sx iOk.len
               obtain ⟨Aa3, ca3, hav, hina, hba⟩ := hao.out.sx aOk7.len
               subst hwv hpv hav
               have HT := Lib.hid (HBt.out.kept hvs.out.ap (by omega))
               have v0 : wc.cell? ⟨V, 0, none⟩ = some (.string nm) := hvs.out.bk.cell 0
               have v1 : wc.cell? ⟨V, 1, none⟩ = some (.string fr) := hvs.out.bk.cell 1
               have v2 : wc.cell? ⟨V, 2, none⟩ = some (.string wt) := hvs.out.bk.cell 2
               have v3 : wc.cell? ⟨V, 3, none⟩ = some (.int .i64 o0) := hvs.out.bk.cell 3
               have v4 : wc.cell? ⟨V, 4, none⟩ = some (.int .i64 o1) := hvs.out.bk.cell 4
               have v5 : wc.cell? ⟨V, 5, none⟩ = some (.slice Aw3 es.length cw3) := hvs.out.bk.cell 5
               have v6 : wc.cell? ⟨V, 6, none⟩ = some (.slice Ap3 pk.length cp3) := hvs.out.bk.cell 6
               have v7 : wc.cell? ⟨V, 7, none⟩ = some (.bool G) := hvs.out.bk.cell 7
               have v8 : wc.cell? ⟨V, 8, none⟩ = some (.slice Aa3 ag.length ca3) := hvs.out.bk.cell 8
               have t0 : wc.cell? ⟨w.heap.size + 1, 0, none⟩ = some (.string emp) := HT.out.cell 0
               have t1 : wc.cell? ⟨w.heap.size + 1, 1, none⟩ = some (.string emp) := HT.out.cell 1
               have t2 : wc.cell? ⟨w.heap.size + 1, 2, none⟩ = some (.string emp) := HT.out.cell 2
               have t3 : wc.cell? ⟨w.heap.size + 1, 3, none⟩ = some (.int .i64 0) := HT.out.cell 3
               have t4 : wc.cell? ⟨w.heap.size + 1, 4, none⟩ = some (.int .i64 0) := HT.out.cell 4
               have t5 : wc.cell? ⟨w.heap.size + 1, 5, none⟩ = some (.slice none 0 0) := HT.out.cell 5
               have t6 : wc.cell? ⟨w.heap.size + 1, 6, none⟩ = some (.slice none 0 0) := HT.out.cell 6
               have t7 : wc.cell? ⟨w.heap.size + 1, 7, none⟩ = some (.bool false) := HT.out.cell 7
               have t8 : wc.cell? ⟨w.heap.size + 1, 8, none⟩ = some (.slice none 0 0) := HT.out.cell 8
               have z0 := HT.out.thaw 0
               have z1 := HT.out.thaw 1
               have z2 := HT.out.thaw 2
               have z3 := HT.out.thaw 3
               have z4 := HT.out.thaw 4
               have z5 := HT.out.thaw 5
               have z6 := HT.out.thaw 6
               have z7 := HT.out.thaw 7
               have z8 := HT.out.thaw 8
               have hV9 := hvs.out.bk.lt
               have hT9 := HT.out.lt
               have Hinw := Lib.hid hinw
               have Hinp := Lib.hid hinp
               have Hina := Lib.hid hina
               have Hbw := Lib.hid hbw
               have Hbp := Lib.hid hbp
               have Hba := Lib.hid hba
               have hne : ¬ w.heap.size + 1 = V := by omega
               clear hinw hinp hina hbw hbp hba how2 hpo2 hao
               by_cases h40 : pk.length ≤ 40
               · have d1 : decide ((pk.length : Int) ≤ 40) = true := by simp; omega
                 by_cases k40 : ag.length ≤ 40
                 · have d2 : decide ((ag.length : Int) ≤ 40) = true := by simp; omega
                   rw [if_pos ⟨h40, k40⟩] at HS
                   go_wp2_with fail
                   refine (req_yes _).mono ?_
                   rintro e w9 ⟨rfl, rfl⟩
                   clear d1 d2
                   go_wp2
                   refine ret_vw (b := w.heap.size + 1) (x := ⟨nm, fr, wt, o0, o1, ⟨Aw3, es.length, cw3, es⟩, ⟨Ap3, pk.length, cp3, pk⟩, G, ⟨Aa3, ag.length, ca3, ag⟩⟩) Tryz.results102 rfl (HT.out.put [.string nm, .string fr, .string wt, .int .i64 o0, .int .i64 o1, .slice Aw3 es.length cw3, .slice Ap3 pk.length cp3, .bool G, .slice Aa3 ag.length ca3] rfl) rfl ?_
                   rw [← HS.out]
                   have hput : ∀ k, k ≠ w.heap.size + 1 → (putL w9 (w.heap.size + 1) 0 [.string nm, .string fr, .string wt, .int .i64 o0, .int .i64 o1, .slice Aw3 es.length cw3, .slice Ap3 pk.length cp3, .bool G, .slice Aa3 ag.length ca3]).heap[k]? = w9.heap[k]? := fun k hk => putL_heap _ _ _ _ _ hk
                   have hsp : w9.heap.size ≤ (putL w9 (w.heap.size + 1) 0 [.string nm, .string fr, .string wt, .int .i64 o0, .int .i64 o1, .slice Aw3 es.length cw3, .slice Ap3 pk.length cp3, .bool G, .slice Aa3 ag.length ca3]).heap.size := by rw [putL_size]; exact Nat.le_refl _
                   refine ⟨⟨nm, fr, wt, o0, o1, ⟨Aw3, es.length, cw3, es⟩, ⟨Ap3, pk.length, cp3, pk⟩, G, ⟨Aa3, ag.length, ca3, ag⟩⟩, rfl, ⟨?_, ?_, ?_⟩, ⟨fun k hk => by have := (Hbw.out k hk).1; omega, fun k hk => by have := (Hbp.out k hk).1; omega, fun k hk => by have := (Hba.out k hk).1; omega⟩, rfl, hvs.out.rq.put (c := w.heap.size + 1) (by omega) 0 [.string nm, .string fr, .string wt, .int .i64 o0, .int .i64 o1, .slice Aw3 es.length cw3, .slice Ap3 pk.length cp3, .bool G, .slice Aa3 ag.length ca3], (HA0.out.trans hvs.out.ap).put (c := w.heap.size + 1) (by omega) 0 [.string nm, .string fr, .string wt, .int .i64 o0, .int .i64 o1, .slice Aw3 es.length cw3, .slice Ap3 pk.length cp3, .bool G, .slice Aa3 ag.length ca3]⟩
                   · exact Hinw.out.same hsp fun k hk => hput k (by have := (Hbw.out k hk).1; omega)
                   · exact Hinp.out.same hsp fun k hk => hput k (by have := (Hbp.out k hk).1; omega)
                   · exact Hina.out.same hsp fun k hk => hput k (by have := (Hba.out k hk).1; omega)
                 · have d2 : decide ((ag.length : Int) ≤ 40) = false := by simp; omega
                   rw [if_neg (fun h => k40 h.2)] at HS
                   go_wp2_with fail
                   refine (req_no _).mono ?_
                   rintro e w9 ⟨rfl, rfl⟩
                   refine ⟨rfl, ?_⟩
                   rw [← HS.out]
                   exact ⟨rfl, HA0.out.trans hvs.out.ap⟩
               · have d1 : decide ((pk.length : Int) ≤ 40) = false := by simp; omega
                 rw [if_neg (fun h => h40 h.1)] at HS
                 go_wp2_with fail
                 refine (req_no _).mono ?_
                 rintro e w9 ⟨rfl, rfl⟩
                 refine ⟨rfl, ?_⟩
                 rw [← HS.out]
                 exact ⟨rfl, HA0.out.trans hvs.out.ap⟩
abbrev sx0 {α : Type} : Sx α := ⟨none, 0, 0, []⟩
def tm0 : Tm := ⟨emp, sx0, sx0⟩
def vm0 : Vm := ⟨emp, emp, emp, 0, 0, sx0, sx0, false, sx0⟩
def dm0 : Dm := ⟨0, tm0, vm0⟩
theorem Sx.In.zero {α : Type} (w : World) (S : Nat) (rd : α → List Value) : (sx0 : Sx α).In w S rd := ⟨rfl, Nat.zero_le _, .inl rfl⟩
theorem tm0_in (w : World) : tm0.In w := ⟨Sx.In.zero _ _ _, Sx.In.zero _ _ _, fun e he => by cases he⟩
theorem vm0_in (w : World) : vm0.In w := ⟨Sx.In.zero _ _ _, Sx.In.zero _ _ _, Sx.In.zero _ _ _⟩
theorem Tm.In.same {w w' : World} {x : Tm} {B : Nat} (h : x.In w) (hl : x.Lo B) (hs : w.heap.size ≤ w'.heap.size) (hb : ∀ k, B ≤ k → w'.heap[k]? = w.heap[k]?) : x.In w' := ⟨h.cols.same hs fun k hk => hb k (hl.cols k hk), h.chks.same hs fun k hk => hb k (hl.chks k hk), fun e he => (h.each e he).same hs fun k hk => hb k (hl.each e he k hk)⟩
theorem Vm.In.same {w w' : World} {x : Vm} {B : Nat} (h : x.In w) (hl : x.Lo B) (hs : w.heap.size ≤ w'.heap.size) (hb : ∀ k, B ≤ k → w'.heap[k]? = w.heap[k]?) : x.In w' := ⟨h.whr.same hs fun k hk => hb k (hl.whr k hk), h.pick.same hs fun k hk => hb k (hl.pick k hk), h.aggs.same hs fun k hk => hb k (hl.aggs k hk)⟩
structure Dm.Lo (B : Nat) (x : Dm) : Prop where
 t : x.t.Lo B
 v : x.v.Lo B
theorem Tm.Lo.mono {B C : Nat} {x : Tm} (h : x.Lo B) (hc : C ≤ B) : x.Lo C := ⟨fun k hk => Nat.le_trans hc (h.cols k hk), fun k hk => Nat.le_trans hc (h.chks k hk), fun e he k hk => Nat.le_trans hc (h.each e he k hk)⟩
theorem Vm.Lo.mono {B C : Nat} {x : Vm} (h : x.Lo B) (hc : C ≤ B) : x.Lo C := ⟨fun k hk => Nat.le_trans hc (h.whr k hk), fun k hk => Nat.le_trans hc (h.pick k hk), fun k hk => Nat.le_trans hc (h.aggs k hk)⟩
theorem Dm.Lo.mono {B C : Nat} {x : Dm} (h : x.Lo B) (hc : C ≤ B) : x.Lo C := ⟨h.t.mono hc, h.v.mono hc⟩
theorem tm0_lo (B : Nat) : tm0.Lo B := ⟨nofun, nofun, nofun⟩
theorem vm0_lo (B : Nat) : vm0.Lo B := ⟨nofun, nofun, nofun⟩
theorem Dm.In.same {w w' : World} {x : Dm} {B : Nat} (h : x.In w) (hl : x.Lo B) (hs : w.heap.size ≤ w'.heap.size) (hb : ∀ k, B ≤ k → w'.heap[k]? = w.heap[k]?) : x.In w' := ⟨h.t.same hl.t hs hb, h.v.same hl.v hs hb⟩
abbrev Dm.cl (x : Dm) : List Value := [.int .i64 x.k, .string x.t.name, .slice x.t.cols.A x.t.cols.n x.t.cols.c, .slice x.t.chks.A x.t.chks.n x.t.chks.c, .string x.v.name, .string x.v.frm, .string x.v.wth, .int .i64 x.v.on0, .int .i64 x.v.on1, .slice x.v.whr.A x.v.whr.n x.v.whr.c, .slice x.v.pick.A x.v.pick.n x.v.pick.c, .bool x.v.grp, .slice x.v.aggs.A x.v.aggs.n x.v.aggs.c]
def BkD (w : World) (b : Nat) (x : Dm) : Prop := Bk w b x.cl.toArray 34
theorem BkD.all {w : World} {b : Nat} {x : Dm} (h : BkD w b x) : w.cell? ⟨b, 0, none⟩ = some (.int .i64 x.k) ∧ w.cell? ⟨b, 1, none⟩ = some (.string x.t.name) ∧ w.cell? ⟨b, 2, none⟩ = some (.slice x.t.cols.A x.t.cols.n x.t.cols.c) ∧ w.cell? ⟨b, 3, none⟩ = some (.slice x.t.chks.A x.t.chks.n x.t.chks.c) ∧
 w.cell? ⟨b, 4, none⟩ = some (.string x.v.name) ∧ w.cell? ⟨b, 5, none⟩ = some (.string x.v.frm) ∧ w.cell? ⟨b, 6, none⟩ = some (.string x.v.wth) ∧ w.cell? ⟨b, 7, none⟩ = some (.int .i64 x.v.on0) ∧ w.cell? ⟨b, 8, none⟩ = some (.int .i64 x.v.on1) ∧ w.cell? ⟨b, 9, none⟩ = some (.slice x.v.whr.A x.v.whr.n x.v.whr.c) ∧
 w.cell? ⟨b, 10, none⟩ = some (.slice x.v.pick.A x.v.pick.n x.v.pick.c) ∧ w.cell? ⟨b, 11, none⟩ = some (.bool x.v.grp) ∧ w.cell? ⟨b, 12, none⟩ = some (.slice x.v.aggs.A x.v.aggs.n x.v.aggs.c) ∧ b < w.heap.size :=
 ⟨Bk.cell h 0, Bk.cell h 1, Bk.cell h 2, Bk.cell h 3, Bk.cell h 4, Bk.cell h 5, Bk.cell h 6, Bk.cell h 7, Bk.cell h 8, Bk.cell h 9, Bk.cell h 10, Bk.cell h 11, Bk.cell h 12, Bk.lt h⟩
theorem BkD.thaw {w : World} {b : Nat} {x : Dm} (h : BkD w b x) : w.frozen? ⟨b, 0, none⟩ = false ∧ w.frozen? ⟨b, 1, none⟩ = false ∧ w.frozen? ⟨b, 2, none⟩ = false ∧ w.frozen? ⟨b, 3, none⟩ = false ∧ w.frozen? ⟨b, 4, none⟩ = false ∧ w.frozen? ⟨b, 5, none⟩ = false ∧ w.frozen? ⟨b, 6, none⟩ = false ∧ w.frozen? ⟨b, 7, none⟩ = false ∧ w.frozen? ⟨b, 8, none⟩ = false ∧ w.frozen? ⟨b, 9, none⟩ = false ∧ w.frozen? ⟨b, 10, none⟩ = false ∧ w.frozen? ⟨b, 11, none⟩ = false ∧ w.frozen? ⟨b, 12, none⟩ = false :=
 ⟨Bk.thaw h 0, Bk.thaw h 1, Bk.thaw h 2, Bk.thaw h 3, Bk.thaw h 4, Bk.thaw h 5, Bk.thaw h 6, Bk.thaw h 7, Bk.thaw h 8, Bk.thaw h 9, Bk.thaw h 10, Bk.thaw h 11, Bk.thaw h 12⟩
theorem ret_df {fn : Func} {R : Ending → World → Prop} {F : Act} {w : World} {t : Tmp} {b : Nat} {x : Dm} (hres : fn.results = #[.cell t 34]) (ht : Reg.slot F t = .pointer (some ⟨b, 0, none⟩)) (hb : BkD w b x) (hd : F.defers = [])
 (hR : R (.returned x.w) w) : bodyPost Tryz.prog fn R .ret F w := by
 obtain ⟨h0, h1, h2, h3, h4, h5, h6, h7, h8, h9, h10, h11, h12, _⟩ := hb.all
 refine bodyPost_ret (v := x.w) ?_ hd hR
 have ht' : F.tmps[t]?.getD undef = .pointer (some ⟨b, 0, none⟩) := by simpa [Reg.slot] using ht
 simp [results, hres, ht', go_sem, h0, h1, h2, h3, h4, h5, h6, h7, h8, h9, h10, h11, h12]
theorem Bk.ne {w : World} {b c : Nat} {cs : Array Value} {T : TypeId} (h : Bk w b cs T) (hne : b ≠ c) (j : Nat) (v : Value) : Bk (w.setCell ⟨c, j, none⟩ v) b cs T := (Below.heap_setCell _ _ _ _ (show b ≠ c from hne)).trans h
def DefS (b : Nat) (w : World) (o : Option Df) (e : Ending) (w' : World) : Prop := match o with
 | none => e = .panicked (boom 70) ∧ Apb b w w'
 | some d => ∃ x : Dm, e = .returned x.w ∧ x.In w' ∧ x.Lo w.heap.size ∧ x.df = d ∧ Apb b w w'
set_option maxHeartbeats 8000000 in
theorem definition_cR (b : Nat) (l : List Tk) (w : World) (hR : Rq w b l) (hG : GL w) (hGb : GLt b) :
 Calls Tryz.prog 65 #[.pointer (some ⟨b, 0, none⟩)] w fun e w' => DefS b w (parseD l) e w' := by
 have hbs := hR.lt
 obtain ⟨S, hS⟩ : ∃ S, DefS b w (parseD l) = S := ⟨_, rfl⟩
 rw [hS]
 unfold parseD at hS
 have HS := Lib.hid hS
 have HG := Lib.hid hG
 have Hgb := Lib.hid hGb
 have hN : (w.alloc (.cells dm0.cl.toArray 34)).heap.size = w.heap.size + 1 := by simp
 have HM := Lib.hid (choiceN_c b (w.heap.size + 1) l [w_table, w_view] (by decide) (by decide) (by decide) _ hN (hR.alloc (.cells dm0.cl.toArray 34)))
 have HB0 : Hid (BkD (w.alloc (.cells dm0.cl.toArray 34)) w.heap.size dm0) := Lib.hid (Bk.new w _ _)
 clear hR hG hGb hS hN
 go_enter Tryz.func65, Tryz.ntmps65
 go_wp2_with fail
 refine HM.out.mono ?_
 rintro e w1 hn
 cases hq : oneP [w_table, w_view] l with
 | none =>
   rw [hq] at hn HS
   obtain ⟨rfl, hb⟩ := hn
   refine ⟨rfl, ?_⟩
   rw [← HS.out]
   exact ⟨rfl, hb.of_alloc⟩
 | some k =>
   obtain ⟨k, r⟩ := k
   have hk := one_bd hq
   have hk2 : k < 2 := by have := hk.2; simpa using this
   rw [hq] at hn HS
   simp only [Option.bind_some] at HS
   obtain ⟨rfl, hr, hb⟩ := hn
   have HB1 : Hid (BkD w1 w.heap.size dm0) := Lib.hid (Bk.kept HB0.out hb (by omega))
   have Hb1 := Lib.hid hb.of_alloc
   have Hr1 := Lib.hid hr
   have hlt : w.heap.size < w1.heap.size := HB1.out.lt
   have HG1 := Lib.hid (HG.out.below (hb.of_alloc.below hbs) Hgb.out)
   have hk0 : 0 ≤ k := hk.1
   clear hq hr hb HM HB0 hk
   have HC1 : Hid (BkD (w1.alloc (.cells (⟨k, tm0, vm0⟩ : Dm).cl.toArray 34)) w1.heap.size ⟨k, tm0, vm0⟩) := Lib.hid (Bk.new w1 _ _)
   have HBc : Hid (BkD (w1.alloc (.cells (⟨k, tm0, vm0⟩ : Dm).cl.toArray 34)) w.heap.size dm0) := Lib.hid (Bk.after HB1.out (below_one _ _) hlt)
   by_cases h0 : k = 0
   · subst h0
     simp only [if_true] at HS
     go_wp2_with fail
     refine (table_cR b r _ (Hr1.out.alloc (.cells (⟨0, tm0, vm0⟩ : Dm).cl.toArray 34)) (HG1.out.after (below_one _ _)) Hgb.out).mono ?_
     rintro e w2 hn
     cases hq : tableP r with
     | none =>
       rw [hq] at hn HS
       obtain ⟨rfl, hb⟩ := hn
       refine ⟨rfl, ?_⟩
       rw [← HS.out]
       exact ⟨rfl, (Hb1.out.alloc _).trans hb⟩
     | some q =>
       obtain ⟨tb, r2⟩ := q
       rw [hq] at hn HS
       simp only [Option.bind_some] at HS
       obtain ⟨x, rfl, hxi, hxl, hxe, hr, hb⟩ := hn
       have HC2 : Hid (BkD w2 w1.heap.size ⟨0, tm0, vm0⟩) := Lib.hid (Bk.kept HC1.out hb (by omega))
       have HB2 : Hid (BkD w2 w.heap.size dm0) := Lib.hid (Bk.kept HBc.out hb (by omega))
       have Hb2 := Lib.hid ((Hb1.out.alloc (.cells (⟨0, tm0, vm0⟩ : Dm).cl.toArray 34)).trans hb)
       have Hr2 := Lib.hid hr
       have Hxi := Lib.hid hxi
       have hxl' : x.Lo (w1.heap.size + 1) := by
        have e : (w1.alloc (.cells (⟨0, tm0, vm0⟩ : Dm).cl.toArray 34)).heap.size = w1.heap.size + 1 := by simp
        rw [e] at hxl; exact hxl
       have Hxl := Lib.hid hxl'
       have Hxe := Lib.hid hxe
       obtain ⟨c0, c1, c2, c3, c4, c5, c6, c7, c8, c9, c10, c11, c12, hlC⟩ := HC2.out.all
       obtain ⟨f0, f1, f2, f3, _⟩ := HC2.out.thaw
       clear hq hr hb hxi hxl hxl' hxe HC1 HBc Hr1 Hb1 HB1
       go_wp2_with fail
       have Hr3 : Hid (Rq (((w2.setCell ⟨w1.heap.size, 1, none⟩ (.string x.name)).setCell ⟨w1.heap.size, 2, none⟩ (.slice x.cols.A x.cols.n x.cols.c)).setCell ⟨w1.heap.size, 3, none⟩ (.slice x.chks.A x.chks.n x.chks.c)) b r2) := Lib.hid ((((Hr2.out).own (by omega) 1 _).own (by omega) 2 _).own (by omega) 3 _)
       have Hb3 : Hid (Apb b w (((w2.setCell ⟨w1.heap.size, 1, none⟩ (.string x.name)).setCell ⟨w1.heap.size, 2, none⟩ (.slice x.cols.A x.cols.n x.cols.c)).setCell ⟨w1.heap.size, 3, none⟩ (.slice x.chks.A x.chks.n x.chks.c))) := Lib.hid ((((Hb2.out).own (by omega) 1 _).own (by omega) 2 _).own (by omega) 3 _)
       have HC3 : Hid (BkD (((w2.setCell ⟨w1.heap.size, 1, none⟩ (.string x.name)).setCell ⟨w1.heap.size, 2, none⟩ (.slice x.cols.A x.cols.n x.cols.c)).setCell ⟨w1.heap.size, 3, none⟩ (.slice x.chks.A x.chks.n x.chks.c)) w1.heap.size ⟨0, x, vm0⟩) := Lib.hid (Bk.set (Bk.set (Bk.set (HC2.out) 1 (.string x.name)) 2 (.slice x.cols.A x.cols.n x.cols.c)) 3 (.slice x.chks.A x.chks.n x.chks.c))
       have HB3 : Hid (BkD (((w2.setCell ⟨w1.heap.size, 1, none⟩ (.string x.name)).setCell ⟨w1.heap.size, 2, none⟩ (.slice x.cols.A x.cols.n x.cols.c)).setCell ⟨w1.heap.size, 3, none⟩ (.slice x.chks.A x.chks.n x.chks.c)) w.heap.size dm0) := Lib.hid (Bk.ne (Bk.ne (Bk.ne (HB2.out) (by omega) 1 _) (by omega) 2 _) (by omega) 3 _)
       have HI3 : Hid (x.In (((w2.setCell ⟨w1.heap.size, 1, none⟩ (.string x.name)).setCell ⟨w1.heap.size, 2, none⟩ (.slice x.cols.A x.cols.n x.cols.c)).setCell ⟨w1.heap.size, 3, none⟩ (.slice x.chks.A x.chks.n x.chks.c))) := Lib.hid (Hxi.out.same Hxl.out (by simp [World.setCell]) fun k hk => by rw [Below.heap_setCell _ _ _ _ (show k ≠ w1.heap.size by omega), Below.heap_setCell _ _ _ _ (show k ≠ w1.heap.size by omega), Below.heap_setCell _ _ _ _ (show k ≠ w1.heap.size by omega)])
       clear c0 c1 c2 c3 c4 c5 c6 c7 c8 c9 c10 c11 c12 hlC HC2 HB2 Hb2 Hr2 Hxi
       refine (done_c b r2 _ Hr3.out).mono ?_
       rintro e w3 ⟨rfl, rfl⟩
       cases hq : r2.isEmpty
       · rw [hq] at HS
         simp only [Bool.false_eq_true, if_false] at HS
         clear hq
         go_wp2_with fail
         refine (req_no _).mono ?_
         rintro e w4 ⟨rfl, rfl⟩
         refine ⟨rfl, ?_⟩
         rw [← HS.out]
         exact ⟨rfl, Hb3.out⟩
       · rw [hq] at HS
         simp only [if_true] at HS
         clear hq
         obtain ⟨w3, hw3⟩ : ∃ w3, ((w2.setCell ⟨w1.heap.size, 1, none⟩ (.string x.name)).setCell ⟨w1.heap.size, 2, none⟩ (.slice x.cols.A x.cols.n x.cols.c)).setCell ⟨w1.heap.size, 3, none⟩ (.slice x.chks.A x.chks.n x.chks.c) = w3 := ⟨_, rfl⟩
         rw [hw3] at HC3 HB3 Hr3 Hb3 HI3 ⊢
         obtain ⟨y, hy⟩ : ∃ y : Dm, y = ⟨0, x, vm0⟩ := ⟨_, rfl⟩
         rw [← hy] at HC3
         have Hy := Lib.hid hy
         have hlC3 := HC3.out.lt
         clear hy
         obtain ⟨c0, c1, c2, c3, c4, c5, c6, c7, c8, c9, c10, c11, c12, hlC⟩ := HC3.out.all
         obtain ⟨d0, d1, d2, d3, d4, d5, d6, d7, d8, d9, d10, d11, d12, hlB⟩ := HB3.out.all
         obtain ⟨z0, z1, z2, z3, z4, z5, z6, z7, z8, z9, z10, z11, z12⟩ := HB3.out.thaw
         clear hw3
         go_wp2_with fail
         refine (req_yes _).mono ?_
         rintro e w4 ⟨rfl, rfl⟩
         go_wp2
         refine ret_df (b := w.heap.size) (x := y) Tryz.results65 rfl (Bk.put HB3.out y.cl rfl) rfl ?_
         rw [← HS.out]
         have hIn : ∀ P : World, w4.heap.size ≤ P.heap.size → (∀ k, w1.heap.size + 1 ≤ k → P.heap[k]? = w4.heap[k]?) → y.In P := fun P h1 h2 => by
          rw [Hy.out]
          exact ⟨HI3.out.same Hxl.out h1 h2, vm0_in _⟩
         have hdf : y.df = ⟨0, tb, vw0⟩ := by
          rw [Hy.out]
          show (⟨0, x.tb, vm0.vw⟩ : Df) = _
          rw [Hxe.out]; rfl
         have hP1 : (putL w4 w.heap.size 0 y.cl).heap.size = w4.heap.size := putL_size _ _ _ _
         have hP2 : ∀ k, w1.heap.size + 1 ≤ k → (putL w4 w.heap.size 0 y.cl).heap[k]? = w4.heap[k]? := fun k hk => putL_heap y.cl w4 w.heap.size 0 k (by omega)
         have hIn2 := hIn _ (Nat.le_of_eq hP1.symm) hP2
         have hLo : y.Lo w.heap.size := by rw [Hy.out]; exact ⟨Hxl.out.mono (by omega), vm0_lo _⟩
         exact ⟨y, rfl, hIn2, hLo, hdf, Hb3.out.put (c := w.heap.size) (Nat.le_refl _) 0 y.cl⟩
   · have hk1 : k = 1 := by omega
     subst hk1
     rw [if_neg h0] at HS
     clear h0
     go_wp2_with fail
     refine (view_cR b r _ (Hr1.out.alloc (.cells (⟨1, tm0, vm0⟩ : Dm).cl.toArray 34)) (HG1.out.after (below_one _ _)) Hgb.out).mono ?_
     rintro e w2 hn
     cases hq : viewP r with
     | none =>
       rw [hq] at hn HS
       obtain ⟨rfl, hb⟩ := hn
       refine ⟨rfl, ?_⟩
       rw [← HS.out]
       exact ⟨rfl, (Hb1.out.alloc _).trans hb⟩
     | some q =>
       obtain ⟨vw, r2⟩ := q
       rw [hq] at hn HS
       simp only [Option.bind_some] at HS
       obtain ⟨x, rfl, hxi, hxl, hxe, hr, hb⟩ := hn
       have HC2 : Hid (BkD w2 w1.heap.size ⟨1, tm0, vm0⟩) := Lib.hid (Bk.kept HC1.out hb (by omega))
       have HB2 : Hid (BkD w2 w.heap.size dm0) := Lib.hid (Bk.kept HBc.out hb (by omega))
       have Hb2 := Lib.hid ((Hb1.out.alloc (.cells (⟨1, tm0, vm0⟩ : Dm).cl.toArray 34)).trans hb)
       have Hr2 := Lib.hid hr
       have Hxi := Lib.hid hxi
       have hxl' : x.Lo (w1.heap.size + 1) := by
        have e : (w1.alloc (.cells (⟨1, tm0, vm0⟩ : Dm).cl.toArray 34)).heap.size = w1.heap.size + 1 := by simp
        rw [e] at hxl; exact hxl
       have Hxl := Lib.hid hxl'
       have Hxe := Lib.hid hxe
       obtain ⟨c0, c1, c2, c3, c4, c5, c6, c7, c8, c9, c10, c11, c12, hlC⟩ := HC2.out.all
       obtain ⟨f0, f1, f2, f3, f4, f5, f6, f7, f8, f9, f10, f11, f12⟩ := HC2.out.thaw
       clear hq hr hb hxi hxl hxl' hxe HC1 HBc Hr1 Hb1 HB1
       go_wp2_with fail
       have hW3 : (((((((((w2).setCell ⟨w1.heap.size, 4, none⟩ (.string x.name)).setCell ⟨w1.heap.size, 5, none⟩ (.string x.frm)).setCell ⟨w1.heap.size, 6, none⟩ (.string x.wth)).setCell ⟨w1.heap.size, 7, none⟩ (.int .i64 x.on0)).setCell ⟨w1.heap.size, 8, none⟩ (.int .i64 x.on1)).setCell ⟨w1.heap.size, 9, none⟩ (.slice x.whr.A x.whr.n x.whr.c)).setCell ⟨w1.heap.size, 10, none⟩ (.slice x.pick.A x.pick.n x.pick.c)).setCell ⟨w1.heap.size, 11, none⟩ (.bool x.grp)).setCell ⟨w1.heap.size, 12, none⟩ (.slice x.aggs.A x.aggs.n x.aggs.c) = putL w2 w1.heap.size 4 [.string x.name, .string x.frm, .string x.wth, .int .i64 x.on0, .int .i64 x.on1, .slice x.whr.A x.whr.n x.whr.c, .slice x.pick.A x.pick.n x.pick.c, .bool x.grp, .slice x.aggs.A x.aggs.n x.aggs.c] := rfl
       have Hr3 : Hid (Rq ((((((((((w2).setCell ⟨w1.heap.size, 4, none⟩ (.string x.name)).setCell ⟨w1.heap.size, 5, none⟩ (.string x.frm)).setCell ⟨w1.heap.size, 6, none⟩ (.string x.wth)).setCell ⟨w1.heap.size, 7, none⟩ (.int .i64 x.on0)).setCell ⟨w1.heap.size, 8, none⟩ (.int .i64 x.on1)).setCell ⟨w1.heap.size, 9, none⟩ (.slice x.whr.A x.whr.n x.whr.c)).setCell ⟨w1.heap.size, 10, none⟩ (.slice x.pick.A x.pick.n x.pick.c)).setCell ⟨w1.heap.size, 11, none⟩ (.bool x.grp)).setCell ⟨w1.heap.size, 12, none⟩ (.slice x.aggs.A x.aggs.n x.aggs.c)) b r2) := Lib.hid (by rw [hW3]; exact Hr2.out.put (by omega) 4 _)
       have Hb3 : Hid (Apb b w ((((((((((w2).setCell ⟨w1.heap.size, 4, none⟩ (.string x.name)).setCell ⟨w1.heap.size, 5, none⟩ (.string x.frm)).setCell ⟨w1.heap.size, 6, none⟩ (.string x.wth)).setCell ⟨w1.heap.size, 7, none⟩ (.int .i64 x.on0)).setCell ⟨w1.heap.size, 8, none⟩ (.int .i64 x.on1)).setCell ⟨w1.heap.size, 9, none⟩ (.slice x.whr.A x.whr.n x.whr.c)).setCell ⟨w1.heap.size, 10, none⟩ (.slice x.pick.A x.pick.n x.pick.c)).setCell ⟨w1.heap.size, 11, none⟩ (.bool x.grp)).setCell ⟨w1.heap.size, 12, none⟩ (.slice x.aggs.A x.aggs.n x.aggs.c))) := Lib.hid (by rw [hW3]; exact Hb2.out.put (by omega) 4 _)
       have HC3 : Hid (BkD ((((((((((w2).setCell ⟨w1.heap.size, 4, none⟩ (.string x.name)).setCell ⟨w1.heap.size, 5, none⟩ (.string x.frm)).setCell ⟨w1.heap.size, 6, none⟩ (.string x.wth)).setCell ⟨w1.heap.size, 7, none⟩ (.int .i64 x.on0)).setCell ⟨w1.heap.size, 8, none⟩ (.int .i64 x.on1)).setCell ⟨w1.heap.size, 9, none⟩ (.slice x.whr.A x.whr.n x.whr.c)).setCell ⟨w1.heap.size, 10, none⟩ (.slice x.pick.A x.pick.n x.pick.c)).setCell ⟨w1.heap.size, 11, none⟩ (.bool x.grp)).setCell ⟨w1.heap.size, 12, none⟩ (.slice x.aggs.A x.aggs.n x.aggs.c)) w1.heap.size ⟨1, tm0, x⟩) := Lib.hid (by rw [hW3]; exact Bk.putF [.string x.name, .string x.frm, .string x.wth, .int .i64 x.on0, .int .i64 x.on1, .slice x.whr.A x.whr.n x.whr.c, .slice x.pick.A x.pick.n x.pick.c, .bool x.grp, .slice x.aggs.A x.aggs.n x.aggs.c] w2 w1.heap.size 4 _ HC2.out rfl)
       have HB3 : Hid (BkD ((((((((((w2).setCell ⟨w1.heap.size, 4, none⟩ (.string x.name)).setCell ⟨w1.heap.size, 5, none⟩ (.string x.frm)).setCell ⟨w1.heap.size, 6, none⟩ (.string x.wth)).setCell ⟨w1.heap.size, 7, none⟩ (.int .i64 x.on0)).setCell ⟨w1.heap.size, 8, none⟩ (.int .i64 x.on1)).setCell ⟨w1.heap.size, 9, none⟩ (.slice x.whr.A x.whr.n x.whr.c)).setCell ⟨w1.heap.size, 10, none⟩ (.slice x.pick.A x.pick.n x.pick.c)).setCell ⟨w1.heap.size, 11, none⟩ (.bool x.grp)).setCell ⟨w1.heap.size, 12, none⟩ (.slice x.aggs.A x.aggs.n x.aggs.c)) w.heap.size dm0) := Lib.hid (by rw [hW3]; exact (putL_heap _ _ _ _ _ (by omega)).trans HB2.out)
       have HI3 : Hid (x.In ((((((((((w2).setCell ⟨w1.heap.size, 4, none⟩ (.string x.name)).setCell ⟨w1.heap.size, 5, none⟩ (.string x.frm)).setCell ⟨w1.heap.size, 6, none⟩ (.string x.wth)).setCell ⟨w1.heap.size, 7, none⟩ (.int .i64 x.on0)).setCell ⟨w1.heap.size, 8, none⟩ (.int .i64 x.on1)).setCell ⟨w1.heap.size, 9, none⟩ (.slice x.whr.A x.whr.n x.whr.c)).setCell ⟨w1.heap.size, 10, none⟩ (.slice x.pick.A x.pick.n x.pick.c)).setCell ⟨w1.heap.size, 11, none⟩ (.bool x.grp)).setCell ⟨w1.heap.size, 12, none⟩ (.slice x.aggs.A x.aggs.n x.aggs.c))) := Lib.hid (by rw [hW3]; exact Hxi.out.same Hxl.out (Nat.le_of_eq (putL_size _ _ _ _).symm) fun k hk => putL_heap _ _ _ _ _ (by omega))
       clear hW3
       clear c0 c1 c2 c3 c4 c5 c6 c7 c8 c9 c10 c11 c12 hlC HC2 HB2 Hb2 Hr2 Hxi
       refine (done_c b r2 _ Hr3.out).mono ?_
       rintro e w3 ⟨rfl, rfl⟩
       cases hq : r2.isEmpty
       · rw [hq] at HS
         simp only [Bool.false_eq_true, if_false] at HS
         clear hq
         go_wp2_with fail
         refine (req_no _).mono ?_
         rintro e w4 ⟨rfl, rfl⟩
         refine ⟨rfl, ?_⟩
         rw [← HS.out]
         exact ⟨rfl, Hb3.out⟩
       · rw [hq] at HS
         simp only [if_true] at HS
         clear hq
         obtain ⟨w3, hw3⟩ : ∃ w3, (((((((((w2).setCell ⟨w1.heap.size, 4, none⟩ (.string x.name)).setCell ⟨w1.heap.size, 5, none⟩ (.string x.frm)).setCell ⟨w1.heap.size, 6, none⟩ (.string x.wth)).setCell ⟨w1.heap.size, 7, none⟩ (.int .i64 x.on0)).setCell ⟨w1.heap.size, 8, none⟩ (.int .i64 x.on1)).setCell ⟨w1.heap.size, 9, none⟩ (.slice x.whr.A x.whr.n x.whr.c)).setCell ⟨w1.heap.size, 10, none⟩ (.slice x.pick.A x.pick.n x.pick.c)).setCell ⟨w1.heap.size, 11, none⟩ (.bool x.grp)).setCell ⟨w1.heap.size, 12, none⟩ (.slice x.aggs.A x.aggs.n x.aggs.c) = w3 := ⟨_, rfl⟩
         rw [hw3] at HC3 HB3 Hr3 Hb3 HI3 ⊢
         obtain ⟨y, hy⟩ : ∃ y : Dm, y = ⟨1, tm0, x⟩ := ⟨_, rfl⟩
         rw [← hy] at HC3
         have Hy := Lib.hid hy
         have hlC3 := HC3.out.lt
         clear hy
         obtain ⟨c0, c1, c2, c3, c4, c5, c6, c7, c8, c9, c10, c11, c12, hlC⟩ := HC3.out.all
         obtain ⟨d0, d1, d2, d3, d4, d5, d6, d7, d8, d9, d10, d11, d12, hlB⟩ := HB3.out.all
         obtain ⟨z0, z1, z2, z3, z4, z5, z6, z7, z8, z9, z10, z11, z12⟩ := HB3.out.thaw
         clear hw3
         go_wp2_with fail
         refine (req_yes _).mono ?_
         rintro e w4 ⟨rfl, rfl⟩
         go_wp2
         refine ret_df (b := w.heap.size) (x := y) Tryz.results65 rfl (Bk.put HB3.out y.cl rfl) rfl ?_
         rw [← HS.out]
         have hIn : ∀ P : World, w4.heap.size ≤ P.heap.size → (∀ k, w1.heap.size + 1 ≤ k → P.heap[k]? = w4.heap[k]?) → y.In P := fun P h1 h2 => by
          rw [Hy.out]
          exact ⟨tm0_in _, HI3.out.same Hxl.out h1 h2⟩
         have hdf : y.df = ⟨1, tb0, vw⟩ := by
          rw [Hy.out]
          show (⟨1, tm0.tb, x.vw⟩ : Df) = _
          rw [Hxe.out]; rfl
         have hP1 : (putL w4 w.heap.size 0 y.cl).heap.size = w4.heap.size := putL_size _ _ _ _
         have hP2 : ∀ k, w1.heap.size + 1 ≤ k → (putL w4 w.heap.size 0 y.cl).heap[k]? = w4.heap[k]? := fun k hk => putL_heap y.cl w4 w.heap.size 0 k (by omega)
         have hIn2 := hIn _ (Nat.le_of_eq hP1.symm) hP2
         have hLo : y.Lo w.heap.size := by rw [Hy.out]; exact ⟨tm0_lo _, Hxl.out.mono (by omega)⟩
         exact ⟨y, rfl, hIn2, hLo, hdf, Hb3.out.put (c := w.heap.size) (Nat.le_refl _) 0 y.cl⟩
theorem tok_lm {l : List UInt8} {ts : List Tk} (h : lexL l = some ts) : ∀ t ∈ ts, mayT t = true := fun t ht => (lex_may _ l ts (Nat.le_refl _) h t ht).1
theorem lexO_lexL {l : List UInt8} {ts : List Tk} (h : lexO l = some ts) : lexL l = some ts := by
 unfold lexO at h
 split at h
 · exact h
 · cases h
def ParseS (l : List UInt8) (w : World) (e : Ending) (w' : World) : Prop := match lexO l with
 | none => e = .panicked (boom 60) ∧ Below w.heap.size w w'
 | some ts => match parseD ts with
   | none => e = .panicked (boom 70) ∧ Below w.heap.size w w'
   | some d => ∃ x : Dm, e = .returned x.w ∧ x.In w' ∧ x.Lo w.heap.size ∧ x.df = d ∧ Below w.heap.size w w'
set_option maxHeartbeats 4000000 in
theorem parse_c (l : List UInt8) (w : World) (hl : l.length ≤ maxLen) (hG : GL w) :
 Calls Tryz.prog 37 #[.string (ba l)] w fun e w' => ParseS l w e w' := by
 have HL := Lib.hid (lex_c l (w.alloc (.cells dm0.cl.toArray 34)) hl (hG.after (below_one _ _)))
 have HB0 : Hid (BkD (w.alloc (.cells dm0.cl.toArray 34)) w.heap.size dm0) := Lib.hid (Bk.new w _ _)
 have HG := Lib.hid hG
 obtain ⟨S, hS⟩ : ∃ S, ParseS l w = S := ⟨_, rfl⟩
 rw [hS]
 have HS := Lib.hid hS
 clear hG hS hl
 go_enter Tryz.func37, Tryz.ntmps37
 go_wp2_with fail
 refine HL.out.mono ?_
 rintro e w1 ⟨v, n, rfl, hls, hb⟩
 have hbw : Below w.heap.size w w1 := (below_one w _).trans (hb.mono (by simp))
 have Hbw := Lib.hid hbw
 have HB1 : Hid (BkD w1 w.heap.size dm0) := Lib.hid (Bk.after HB0.out hb (by simp))
 have hlt : w.heap.size < w1.heap.size := HB1.out.lt
 cases hq : lexO l with
 | none =>
   rw [hq] at hls
   have hp : S (.panicked (boom 60)) w1 := by
    rw [← HS.out]
    unfold ParseS
    rw [hq]
    exact ⟨rfl, hbw⟩
   have HP := Lib.hid hp
   obtain ⟨rfl, rfl⟩ := hls
   clear hq hp hb hbw HS HL HB0
   go_wp2
   exact ⟨rfl, HP.out⟩
 | some ts =>
   rw [hq] at hls
   obtain ⟨rfl, ho, hln⟩ := hls
   have hmay := tok_lm (lexO_lexL hq)
   obtain ⟨A, c, hv, hnc, hcm, hsl⟩ := ho.sl tOk.len
   subst hv
   have hSe : S = fun e w' => match parseD ts with
    | none => e = .panicked (boom 70) ∧ Below w.heap.size w w'
    | some d => ∃ x : Dm, e = .returned x.w ∧ x.In w' ∧ x.Lo w.heap.size ∧ x.df = d ∧ Below w.heap.size w w' := by
    rw [← HS.out]
    funext e w'
    unfold ParseS
    rw [hq]
   have HSe := Lib.hid hSe
   have hz2 : (w1.alloc (stO 11)).heap.size = w1.heap.size + 1 := by simp
   have hR : Rq ((w1.alloc (stO 11)).alloc (.cells #[.slice A ts.length c, .map (some w1.heap.size)] 112)) (w1.heap.size + 1) ts := by
    have hbk := Bk.new (w1.alloc (stO 11)) #[.slice A ts.length c, .map (some w1.heap.size)] 112
    rw [hz2] at hbk
    refine ⟨A, ts.length, c, w1.heap.size, hbk, rfl, hnc, hcm, ?_, by omega, ?_, hln, hmay⟩
    · rcases hsl with h | ⟨b0, off, hA, hlt0, h⟩
      · exact .inl h
      · refine .inr ⟨b0, off, hA, by omega, fun i x hx j u hu => ?_⟩
        rw [← h i x hx j u hu]
        have e1 := Below.heap_alloc (w1.alloc (stO 11)) (.cells #[.slice A ts.length c, .map (some w1.heap.size)] 112) b0 (by simp; omega)
        have e2 := Below.heap_alloc w1 (stO 11) b0 hlt0
        simp only [World.cell?, e1, e2]
    · refine (Below.heap_alloc (w1.alloc (stO 11)) (.cells #[.slice A ts.length c, .map (some w1.heap.size)] 112) w1.heap.size (by simp)).trans ?_
      show (w1.heap.push _)[w1.heap.size]? = _
      simp
   have hbt : Below w1.heap.size w1 ((w1.alloc (stO 11)).alloc (.cells #[.slice A ts.length c, .map (some w1.heap.size)] 112)) := (below_one w1 _).trans ((below_one (w1.alloc (stO 11)) _).mono (by simp))
   have HR := Lib.hid hR
   have HG2 := Lib.hid ((HG.out.after hbw).after hbt)
   have Hgt := Lib.hid (HG.out.lt.le (m := w1.heap.size + 1) (by omega))
   have HB2 : Hid (BkD ((w1.alloc (stO 11)).alloc (.cells #[.slice A ts.length c, .map (some w1.heap.size)] 112)) w.heap.size dm0) := Lib.hid (Bk.after HB1.out hbt hlt)
   have Hbt := Lib.hid hbt
   clear hq hb hbw hR hmay ho hsl hSe hz2 hbt HS HL HB0
   go_wp2_with fail
   refine (steps_c w1).mono ?_
   rintro e w2 ⟨rfl, rfl⟩
   go_wp2_with fail
   refine (definition_cR (w1.heap.size + 1) ts _ HR.out HG2.out Hgt.out).mono ?_
   rintro e w3 hn
   have hcv : ∀ {v : World}, Apb (w1.heap.size + 1) ((w1.alloc (stO 11)).alloc (.cells #[.slice A ts.length c, .map (some w1.heap.size)] 112)) v → Below w.heap.size w v := fun {v} h => by
    have h1 := Hbw.out.trans (Hbt.out.mono (by omega))
    exact ⟨h.os.trans h1.os, h.tape.trans h1.tape, h.output.trans h1.output, Nat.le_trans h1.size h.size, fun k hk => (h.other k (by simp; omega) (by omega)).trans (h1.block k hk)⟩
   cases hq : parseD ts with
   | none =>
     rw [hq] at hn
     obtain ⟨rfl, hb⟩ := hn
     refine ⟨rfl, ?_⟩
     rw [HSe.out]
     simp only [hq]
     exact ⟨trivial, hcv hb⟩
   | some d =>
     rw [hq] at hn
     obtain ⟨x, rfl, hxi, hxl, hxe, hb⟩ := hn
     have hS2 : S = fun e w' => ∃ x : Dm, e = .returned x.w ∧ x.In w' ∧ x.Lo w.heap.size ∧ x.df = d ∧ Below w.heap.size w w' := by rw [HSe.out, hq]
     have HS2 := Lib.hid hS2
     have HB3 : Hid (BkD w3 w.heap.size dm0) := Lib.hid (Bk.kept HB2.out hb (by omega))
     have hb3 := hcv hb
     have Hb3 := Lib.hid hb3
     have Hxi := Lib.hid hxi
     have hxl2 : x.Lo (w.heap.size + 1) := hxl.mono (by simp; omega)
     have Hxl := Lib.hid hxl2
     have Hxe := Lib.hid hxe
     obtain ⟨d0, d1, d2, d3, d4, d5, d6, d7, d8, d9, d10, d11, d12, hlB⟩ := HB3.out.all
     obtain ⟨z0, z1, z2, z3, z4, z5, z6, z7, z8, z9, z10, z11, z12⟩ := HB3.out.thaw
     clear hq hb hb3 hxi hxl hxl2 hxe hS2 hcv HSe
     go_wp2
     refine ret_df (b := w.heap.size) (x := x) Tryz.results37 rfl (Bk.put HB3.out x.cl rfl) rfl ?_
     rw [HS2.out]
     have hP1 : (putL w3 w.heap.size 0 x.cl).heap.size = w3.heap.size := putL_size _ _ _ _
     have hIn := Hxi.out.same Hxl.out (Nat.le_of_eq hP1.symm) (fun k hk => putL_heap x.cl w3 w.heap.size 0 k (by omega))
     have hio := putL_io x.cl w3 w.heap.size 0
     have hBel : Below w.heap.size w (putL w3 w.heap.size 0 x.cl) := ⟨hio.1.trans Hb3.out.os, hio.2.1.trans Hb3.out.tape, hio.2.2.trans Hb3.out.output, by rw [hP1]; exact Hb3.out.size, fun k hk => (putL_heap x.cl w3 w.heap.size 0 k (by omega)).trans (Hb3.out.block k hk)⟩
     exact ⟨x, rfl, hIn, Hxl.out.mono (by omega), Hxe.out, hBel⟩
theorem catch_idle (p : Addr) (w : World) :
 CallsD Tryz.prog 53 #[.pointer (some p)] .returning w fun e u' w' => e = .returned (.tuple #[]) ∧ u' = .returning ∧ w' = w := by
 refine callsD_of_wpS Tryz.func53 rfl fun c₀ cs hu => ?_
 apply wpS_seq
 apply wpS_region
 simp [wpOpsS, go_sem, recoverD, hu, Tryz.ntmps53, Exit.thenS]
 refine wpS_of_wp ?_
 go_wp2
 cases c₀
 simp_all [bodyPostS, results, Tryz.results53]
theorem run_fail0 {P : Program} {T X : TypeId} {fs : Array Field} (hu : P.underlying T = some (.struct fs)) (v : Value) (w : World) : (Instr.typeAssert (.iface T v) X T true).run P w = .ok (.tuple #[v, .bool true]) w := by
 simp [Instr.typeAssert, run_underlying hu, Result.andThen]
theorem run_fail (n : Int) (w : World) : (Instr.typeAssert (.iface 91 (.agg #[.int .i64 n])) 20 91 true).run Tryz.prog w = .ok (.tuple #[.agg #[.int .i64 n], .bool true]) w := run_fail0 Tryz.underlying91 _ _
set_option maxHeartbeats 1000000 in
theorem catch_boom (b : Nat) (n : Int) (x : Value) (w : World) (hb : Bk w b #[x] 38) :
 CallsD Tryz.prog 53 #[.pointer (some ⟨b, 0, none⟩)] (.panicking (boom n)) w fun e u' w' => e = .returned (.tuple #[]) ∧ (∃ v, u' = .panicking [{ v := v, recovered := true }]) ∧ w' = (w.setCell ⟨b, 0, none⟩ (.int .i64 n)).alloc (.cells #[.int .i64 n] 91) := by
 have hc : w.cell? ⟨b, 0, none⟩ = some x := hb.cell 0
 have hz := hb.thaw 0
 have hl := hb.lt
 refine callsD_of_wpS Tryz.func53 rfl fun c₀ cs hu => ?_
 unfold boom at hu
 have hta := run_fail n
 clear hb
 apply wpS_seq
 apply wpS_region
 simp [wpOpsS, go_sem, recoverD, hu, Tryz.ntmps53, Exit.thenS]
 refine wpS_of_wp ?_
 go_wp2
 cases c₀
 simp_all [bodyPostS, results, Tryz.results53]
def AttS (b : Nat) (R : Int → World → Prop) (e : Ending) (w' : World) : Prop := ∃ n w2, e = .returned (.int .i64 n) ∧ R n w2 ∧ Apb b w2 w'
set_option maxHeartbeats 4000000 in
theorem attempt_c (F : Nat) (caps : Array Value) (hF : ∀ w, (callFunc F caps).run Tryz.prog w = .ok (.enter F caps) w) (R : Int → World → Prop) (w : World)
 (hc : Calls Tryz.prog F caps (w.alloc (.cells #[.int .i64 0] 38)) fun e w' => (e = .returned (.tuple #[]) ∧ R 0 w' ∧ Bk w' w.heap.size #[.int .i64 0] 38) ∨ (∃ n, e = .panicked (boom n) ∧ R n w' ∧ Bk w' w.heap.size #[.int .i64 0] 38)) :
 Calls Tryz.prog 30 #[.func (.func F) #[] caps] w fun e w' => AttS w.heap.size R e w' := by
 obtain ⟨S, hS⟩ : ∃ S, AttS w.heap.size R = S := ⟨_, rfl⟩
 rw [hS]
 have HS := Lib.hid hS
 have HC := Lib.hid hc
 have hmf : ∀ (fn : Fn) (first cap : Array Value) (w : World), (Instr.makeFunc fn first cap).run Tryz.prog w = .ok (.func fn first cap) w := fun _ _ _ _ => rfl
 clear hc hS
 go_enter_defers Tryz.func30, Tryz.ntmps30
 go_wp2_with fail
 refine HC.out.mono ?_
 rintro e w1 (⟨rfl, hr, hb⟩ | ⟨n, rfl, hr, hb⟩)
 · have c0 : w1.cell? ⟨w.heap.size, 0, none⟩ = some (.int .i64 0) := hb.cell 0
   have f0 := hb.thaw 0
   have hl := hb.lt
   have Hr := Lib.hid hr
   have Hb := Lib.hid hb
   clear hr hb HC
   go_wp2
   refine leaves_cons (f := 53) (args := #[.pointer (some ⟨w.heap.size, 0, none⟩)]) (by simp) (by simp [go_sem]) ?_
   refine (catch_idle ⟨w.heap.size, 0, none⟩ _).mono ?_
   rintro e u' w'' ⟨rfl, rfl, rfl⟩
   have c1 : (w1.setCell ⟨w.heap.size, 0, none⟩ (.int .i64 0)).cell? ⟨w.heap.size, 0, none⟩ = some (.int .i64 0) := World.cell?_setCell_same _ _ _ c0
   have hS : S (.returned (.int .i64 0)) (w1.setCell ⟨w.heap.size, 0, none⟩ (.int .i64 0)) := by
    rw [← HS.out]
    exact ⟨0, w1, rfl, Hr.out, (Apb.refl _ _).set 0 _⟩
   simp [Leaves, settle, results, Tryz.results30, go_sem, c1]
   exact hS
 · refine leaves_cons (f := 53) (args := #[.pointer (some ⟨w.heap.size, 0, none⟩)]) (by simp) (by simp [go_sem]) ?_
   refine (catch_boom w.heap.size n _ _ hb).mono ?_
   rintro e u' w'' ⟨rfl, ⟨v, rfl⟩, rfl⟩
   have hne : w.heap.size < w1.heap.size := hb.lt
   have c1 : ((w1.setCell ⟨w.heap.size, 0, none⟩ (.int .i64 n)).alloc (.cells #[.int .i64 n] 91)).cell? ⟨w.heap.size, 0, none⟩ = some (.int .i64 n) := ((hb.set 0 (.int .i64 n)).after (below_one _ _) (by simp [World.setCell]; exact hne)).cell 0
   have hS : S (.returned (.int .i64 n)) ((w1.setCell ⟨w.heap.size, 0, none⟩ (.int .i64 n)).alloc (.cells #[.int .i64 n] 91)) := by
    rw [← HS.out]
    exact ⟨n, w1, rfl, hr, ((Apb.refl _ _).set 0 _).alloc _⟩
   generalize ((w1.setCell ⟨w.heap.size, 0, none⟩ (.int .i64 n)).alloc (.cells #[.int .i64 n] 91)) = W2 at c1 hS ⊢
   simp [Leaves, settle, results, Tryz.results30, go_sem, c1]
   exact hS
def PrsS (l : List UInt8) (w : World) (e : Ending) (w' : World) : Prop := match lexO l with
 | none => e = .returned (.tuple #[dm0.w, .int .i64 60]) ∧ Below w.heap.size w w'
 | some ts => match parseD ts with
   | none => e = .returned (.tuple #[dm0.w, .int .i64 70]) ∧ Below w.heap.size w w'
   | some d => ∃ x : Dm, e = .returned (.tuple #[x.w, .int .i64 0]) ∧ x.In w' ∧ x.Lo w.heap.size ∧ x.df = d ∧ Below w.heap.size w w'
def PrsR (l : List UInt8) (D : Nat) (w : World) (n : Int) (w' : World) : Prop := match lexO l with
 | none => n = 60 ∧ BkD w' D dm0 ∧ Below w.heap.size w w'
 | some ts => match parseD ts with
   | none => n = 70 ∧ BkD w' D dm0 ∧ Below w.heap.size w w'
   | some d => ∃ x : Dm, n = 0 ∧ BkD w' D x ∧ x.In w' ∧ x.Lo w.heap.size ∧ x.df = d ∧ Apb D w w'
theorem PrsR.none0 {l : List UInt8} {D : Nat} {w w' : World} {n : Int} (h : lexO l = none) (hn : n = 60) (hb : BkD w' D dm0) (ha : Below w.heap.size w w') : PrsR l D w n w' := by
 unfold PrsR; rw [h]; exact ⟨hn, hb, ha⟩
theorem PrsR.none1 {l : List UInt8} {D : Nat} {w w' : World} {n : Int} {ts : List Tk} (h : lexO l = some ts) (h2 : parseD ts = none) (hn : n = 70) (hb : BkD w' D dm0) (ha : Below w.heap.size w w') : PrsR l D w n w' := by
 unfold PrsR; rw [h]; simp only [h2]; exact ⟨hn, hb, ha⟩
theorem PrsR.some1 {l : List UInt8} {D : Nat} {w w' : World} {n : Int} {ts : List Tk} {d : Df} (h : lexO l = some ts) (h2 : parseD ts = some d) (hx : ∃ x : Dm, n = 0 ∧ BkD w' D x ∧ x.In w' ∧ x.Lo w.heap.size ∧ x.df = d ∧ Apb D w w') : PrsR l D w n w' := by
 unfold PrsR; rw [h]; simp only [h2]; exact hx
set_option maxHeartbeats 4000000 in
theorem prs1_c (l : List UInt8) (bs D : Nat) (w : World) (hl : l.length ≤ maxLen) (hG : GL w) (hs : Bk w bs #[.string (ba l)] 9) (hD : BkD w D dm0) :
 Calls Tryz.prog 36 #[.pointer (some ⟨bs, 0, none⟩), .pointer (some ⟨D, 0, none⟩)] w fun e w' => (e = .returned (.tuple #[]) ∧ PrsR l D w 0 w') ∨ (∃ n, e = .panicked (boom n) ∧ PrsR l D w n w') := by
 have HP := Lib.hid (parse_c l w hl hG)
 have s0 : w.cell? ⟨bs, 0, none⟩ = some (.string (ba l)) := hs.cell 0
 have hlD := hD.lt
 have HD := Lib.hid hD
 obtain ⟨Q, hQ⟩ : ∃ Q : Ending → World → Prop, (fun e w' => (e = .returned (.tuple #[]) ∧ PrsR l D w 0 w') ∨ (∃ n, e = .panicked (boom n) ∧ PrsR l D w n w')) = Q := ⟨_, rfl⟩
 have HQ := Lib.hid hQ
 show Calls _ _ _ _ (fun e w' => (fun e w' => (e = .returned (.tuple #[]) ∧ PrsR l D w 0 w') ∨ (∃ n, e = .panicked (boom n) ∧ PrsR l D w n w')) e w')
 rw [hQ]
 clear hG hs hD hQ hl
 go_enter Tryz.func36, Tryz.ntmps36
 go_wp2_with fail
 refine HP.out.mono ?_
 rintro e w1 hn
 unfold ParseS at hn
 cases hq : lexO l with
 | none =>
   rw [hq] at hn
   obtain ⟨rfl, hb⟩ := hn
   refine ⟨rfl, ?_⟩
   rw [← HQ.out]
   exact .inr ⟨60, rfl, PrsR.none0 hq rfl (Bk.after HD.out hb hlD) hb⟩
 | some ts =>
   rw [hq] at hn
   cases hq2 : parseD ts with
   | none =>
     simp only [hq2] at hn
     obtain ⟨rfl, hb⟩ := hn
     refine ⟨rfl, ?_⟩
     rw [← HQ.out]
     exact .inr ⟨70, rfl, PrsR.none1 hq hq2 rfl (Bk.after HD.out hb hlD) hb⟩
   | some d =>
     simp only [hq2] at hn
     obtain ⟨x, rfl, hxi, hxl, hxe, hb⟩ := hn
     have HD1 : Hid (BkD w1 D dm0) := Lib.hid (Bk.after HD.out hb hlD)
     have Hxi := Lib.hid hxi
     have Hxl := Lib.hid hxl
     have Hxe := Lib.hid hxe
     have Hb := Lib.hid hb
     have Hq := Lib.hid hq
     have Hq2 := Lib.hid hq2
     obtain ⟨d0, d1, d2, d3, d4, d5, d6, d7, d8, d9, d10, d11, d12, hlB⟩ := HD1.out.all
     obtain ⟨z0, z1, z2, z3, z4, z5, z6, z7, z8, z9, z10, z11, z12⟩ := HD1.out.thaw
     clear hq hq2 hxi hxl hxe hb s0 HP HD
     go_wp2
     go_end0
     have hP1 : (putL w1 D 0 x.cl).heap.size = w1.heap.size := putL_size _ _ _ _
     have hIn := Hxi.out.same Hxl.out (Nat.le_of_eq hP1.symm) (fun k hk => putL_heap x.cl w1 D 0 k (by omega))
     have hio := putL_io x.cl w1 D 0
     have hAp : Apb D w (putL w1 D 0 x.cl) := ⟨hio.1.trans Hb.out.os, hio.2.1.trans Hb.out.tape, hio.2.2.trans Hb.out.output, by rw [hP1]; exact Hb.out.size, fun k hk hne => (putL_heap x.cl w1 D 0 k hne).trans (Hb.out.block k hk)⟩
     have hBk : BkD (putL w1 D 0 x.cl) D x := Bk.put HD1.out x.cl rfl
     have hR := PrsR.some1 (n := 0) Hq.out Hq2.out ⟨x, rfl, hBk, hIn, Hxl.out, Hxe.out, hAp⟩
     rw [← HQ.out]
     exact .inl ⟨rfl, hR⟩
theorem ret_df2 {fn : Func} {R : Ending → World → Prop} {F : Act} {w : World} {t u : Tmp} {b : Nat} {x : Dm} {z : Value} (hres : fn.results = #[.cell t 34, .tmp u]) (ht : Reg.slot F t = .pointer (some ⟨b, 0, none⟩)) (hu : Reg.slot F u = z) (hb : BkD w b x) (hd : F.defers = [])
 (hR : R (.returned (.tuple #[x.w, z])) w) : bodyPost Tryz.prog fn R .ret F w := by
 obtain ⟨h0, h1, h2, h3, h4, h5, h6, h7, h8, h9, h10, h11, h12, _⟩ := hb.all
 refine bodyPost_ret (v := .tuple #[x.w, z]) ?_ hd hR
 have ht' : F.tmps[t]?.getD undef = .pointer (some ⟨b, 0, none⟩) := by simpa [Reg.slot] using ht
 have hu' : F.tmps[u]?.getD undef = z := by simpa [Reg.slot] using hu
 simp [results, hres, ht', hu', go_sem, h0, h1, h2, h3, h4, h5, h6, h7, h8, h9, h10, h11, h12]
structure PrsE (l : List UInt8) (D B : Nat) (n : Int) (w' : World) (x : Dm) : Prop where
 bk : BkD w' D x
 inn : x.In w'
 lo : x.Lo B ∨ x = dm0
 tell : (lexO l = none ∧ n = 60 ∧ x = dm0) ∨ (∃ ts, lexO l = some ts ∧ parseD ts = none ∧ n = 70 ∧ x = dm0) ∨ (∃ ts d, lexO l = some ts ∧ parseD ts = some d ∧ n = 0 ∧ x.df = d ∧ x.Lo B)
theorem Sx.In.same' {α : Type} {w w' : World} {S B : Nat} {rd : α → List Value} {h : Sx α} (hi : h.In w S rd) (hs : w.heap.size ≤ w'.heap.size) (hl : h.Lo B) (hb : ∀ k, B ≤ k → k < w.heap.size → w'.heap[k]? = w.heap[k]?) : h.In w' S rd := by
 refine ⟨hi.len, hi.max, ?_⟩
 rcases hi.sl with h0 | ⟨b, off, hA, hlt, hc⟩
 · exact .inl h0
 · refine .inr ⟨b, off, hA, Nat.lt_of_lt_of_le hlt hs, fun i x hx j u hu => ?_⟩
   rw [← hc i x hx j u hu]
   simp only [World.cell?, hb b (hl b (by rw [hA]; rfl)) hlt]
theorem Dm.In.same' {w w' : World} {x : Dm} {B : Nat} (h : x.In w) (hs : w.heap.size ≤ w'.heap.size) (hl : x.Lo B) (hb : ∀ k, B ≤ k → k < w.heap.size → w'.heap[k]? = w.heap[k]?) : x.In w' :=
 ⟨⟨h.t.cols.same' hs hl.t.cols hb, h.t.chks.same' hs hl.t.chks hb, fun e he => (h.t.each e he).same' hs (hl.t.each e he) hb⟩, ⟨h.v.whr.same' hs hl.v.whr hb, h.v.pick.same' hs hl.v.pick hb, h.v.aggs.same' hs hl.v.aggs hb⟩⟩
theorem dm0_in (w : World) : dm0.In w := ⟨tm0_in w, vm0_in w⟩
theorem PrsR.ex {l : List UInt8} {D : Nat} {w w' : World} {n : Int} (h : PrsR l D w n w') : ∃ x, PrsE l D w.heap.size n w' x ∧ Apb D w w' := by
 unfold PrsR at h
 cases hq : lexO l with
 | none =>
   rw [hq] at h
   exact ⟨dm0, ⟨h.2.1, dm0_in _, .inr rfl, .inl ⟨hq, h.1, rfl⟩⟩, (Apb.refl D w).then h.2.2 (Nat.le_refl _)⟩
 | some ts =>
   rw [hq] at h
   cases hq2 : parseD ts with
   | none =>
     simp only [hq2] at h
     exact ⟨dm0, ⟨h.2.1, dm0_in _, .inr rfl, .inr (.inl ⟨ts, hq, hq2, h.1, rfl⟩)⟩, (Apb.refl D w).then h.2.2 (Nat.le_refl _)⟩
   | some d =>
     simp only [hq2] at h
     obtain ⟨x, h1, h2, h3, h4, h5, h6⟩ := h
     exact ⟨x, ⟨h2, h3, .inl h4, .inr (.inr ⟨ts, d, hq, hq2, h1, h5, h4⟩)⟩, h6⟩
set_option maxHeartbeats 4000000 in
theorem prs_c (l : List UInt8) (w : World) (hl : l.length ≤ maxLen) (hG : GL w) :
 Calls Tryz.prog 17 #[.string (ba l)] w fun e w' => PrsS l w e w' := by
 obtain ⟨W, hW⟩ : ∃ W, ((w.alloc (.cells #[.string (ba l)] 9)).alloc (.cells dm0.cl.toArray 34)).alloc (.cells dm0.cl.toArray 34) = W := ⟨_, rfl⟩
 have hz : W.heap.size = w.heap.size + 3 := by rw [← hW]; simp
 have hbW : Below w.heap.size w W := by rw [← hW]; exact ((below_one w _).trans ((below_one _ _).mono (by simp))).trans ((below_one _ _).mono (by simp; omega))
 have HBs : Hid (Bk W w.heap.size #[.string (ba l)] 9) := Lib.hid (by rw [← hW]; exact ((Bk.new w _ _).after (below_one _ _) (by simp)).after (below_one _ _) (by simp; omega))
 have HBt : Hid (BkD W (w.heap.size + 1) dm0) := Lib.hid (by
  rw [← hW]
  have h1 := Bk.new (w.alloc (.cells #[.string (ba l)] 9)) dm0.cl.toArray 34
  have h2 := h1.after (below_one _ (.cells dm0.cl.toArray 34)) (by simp)
  have e : (w.alloc (.cells #[.string (ba l)] 9)).heap.size = w.heap.size + 1 := by simp
  rw [e] at h2; exact h2)
 have HBd : Hid (BkD W (w.heap.size + 2) dm0) := Lib.hid (by
  rw [← hW]
  have h1 := Bk.new ((w.alloc (.cells #[.string (ba l)] 9)).alloc (.cells dm0.cl.toArray 34)) dm0.cl.toArray 34
  have e : ((w.alloc (.cells #[.string (ba l)] 9)).alloc (.cells dm0.cl.toArray 34)).heap.size = w.heap.size + 2 := by simp
  rw [e] at h1; exact h1)
 have hGW := hG.after hbW
 have hzW : (W.alloc (.cells #[.int .i64 0] 38)).heap.size = w.heap.size + 4 := by simp; omega
 have HA := Lib.hid (attempt_c 36 #[.pointer (some ⟨w.heap.size, 0, none⟩), .pointer (some ⟨w.heap.size + 2, 0, none⟩)] (fun u => by kernel_rfl) (fun n w' => PrsR l (w.heap.size + 2) (W.alloc (.cells #[.int .i64 0] 38)) n w') W (by
  refine (prs1_c l w.heap.size (w.heap.size + 2) _ hl (hGW.after (below_one _ _)) (HBs.out.after (below_one _ _) (by omega)) (Bk.after HBd.out (below_one _ _) (by omega))).mono ?_
  have hE := Bk.new W #[.int .i64 0] 38
  rintro e w' (⟨h1, h2⟩ | ⟨n, h1, h2⟩)
  · obtain ⟨x, _, ha⟩ := h2.ex
    exact .inl ⟨h1, h2, hE.kept ha (by omega)⟩
  · obtain ⟨x, _, ha⟩ := h2.ex
    exact .inr ⟨n, h1, h2, hE.kept ha (by omega)⟩))
 have hmf : ∀ (fn : Fn) (first cap : Array Value) (w : World), (Instr.makeFunc fn first cap).run Tryz.prog w = .ok (.func fn first cap) w := fun _ _ _ _ => rfl
 obtain ⟨S, hS⟩ : ∃ S, PrsS l w = S := ⟨_, rfl⟩
 rw [hS]
 have HS := Lib.hid hS
 have HbW := Lib.hid hbW
 have HW : Hid (((w.alloc (.cells #[.string (ba l)] 9)).alloc (.cells #[.int .i64 0, .string ⟨#[]⟩, .slice none 0 0, .slice none 0 0, .string ⟨#[]⟩, .string ⟨#[]⟩, .string ⟨#[]⟩, .int .i64 0, .int .i64 0, .slice none 0 0, .slice none 0 0, .bool false, .slice none 0 0] 34)).alloc (.cells #[.int .i64 0, .string ⟨#[]⟩, .slice none 0 0, .slice none 0 0, .string ⟨#[]⟩, .string ⟨#[]⟩, .string ⟨#[]⟩, .int .i64 0, .int .i64 0, .slice none 0 0, .slice none 0 0, .bool false, .slice none 0 0] 34) = W) := hW
 clear hS hbW hW hG hGW hl
 go_enter Tryz.func17, Tryz.ntmps17
 go_wp2_with fail
 rw [HW.out, show w.heap.size + 1 + 1 = w.heap.size + 2 from rfl]
 refine HA.out.mono ?_
 rintro e w1 ⟨n, w2, rfl, hr, ha⟩
 obtain ⟨x, hx, hap⟩ := hr.ex
 have hs2 := hap.size
 have hB0 : BkD w2 (w.heap.size + 1) dm0 := Bk.kept (Bk.after HBt.out (below_one W (.cells #[.int .i64 0] 38)) (by omega)) hap (by omega)
 have HB1 : Hid (BkD w1 (w.heap.size + 1) dm0) := Lib.hid (Bk.kept hB0 ha (by omega))
 have HX1 : Hid (BkD w1 (w.heap.size + 2) x) := Lib.hid (Bk.kept hx.bk ha (by omega))
 have HI1 : Hid (x.In w1) := Lib.hid (by
  rcases hx.lo with h | h
  · exact hx.inn.same' ha.size (B := w.heap.size + 4) (by rw [hzW] at h; exact h) fun k h1 h2 => ha.other k h2 (by omega)
  · rw [h]; exact dm0_in _)
 have hbel : Below w.heap.size w w1 := by
  have h1 := HbW.out
  have h2 := below_one W (.cells #[.int .i64 0] 38)
  refine ⟨ha.os.trans (hap.os.trans (h2.os.trans h1.os)), ha.tape.trans (hap.tape.trans (h2.tape.trans h1.tape)), ha.output.trans (hap.output.trans (h2.output.trans h1.output)), by have := ha.size; omega, fun k hk => ?_⟩
  exact (ha.other k (by omega) (by omega)).trans ((hap.other k (by omega) (by omega)).trans ((h2.block k (by omega)).trans (h1.block k hk)))
 have Hbel := Lib.hid hbel
 have Htell := Lib.hid hx.tell
 obtain ⟨c0, c1, c2, c3, c4, c5, c6, c7, c8, c9, c10, c11, c12, hlX⟩ := HX1.out.all
 obtain ⟨d0, d1, d2, d3, d4, d5, d6, d7, d8, d9, d10, d11, d12, hlB⟩ := HB1.out.all
 obtain ⟨z0, z1, z2, z3, z4, z5, z6, z7, z8, z9, z10, z11, z12⟩ := HB1.out.thaw
 clear hr ha hx hap hbel hB0 HA
 go_wp2
 refine ret_df2 (b := w.heap.size + 1) (x := x) (z := .int .i64 n) Tryz.results17 rfl rfl (Bk.put HB1.out x.cl rfl) rfl ?_
 have hP1 : (putL w1 (w.heap.size + 1) 0 x.cl).heap.size = w1.heap.size := putL_size _ _ _ _
 have hio := putL_io x.cl w1 (w.heap.size + 1) 0
 have hBel : Below w.heap.size w (putL w1 (w.heap.size + 1) 0 x.cl) := ⟨hio.1.trans Hbel.out.os, hio.2.1.trans Hbel.out.tape, hio.2.2.trans Hbel.out.output, by rw [hP1]; exact Hbel.out.size, fun k hk => (putL_heap x.cl w1 (w.heap.size + 1) 0 k (by omega)).trans (Hbel.out.block k hk)⟩
 have hfin : PrsS l w (.returned (.tuple #[x.w, .int .i64 n])) (putL w1 (w.heap.size + 1) 0 x.cl) := by
  unfold PrsS
  rcases Htell.out with ⟨h1, h2, h3⟩ | ⟨ts, h1, h2, h3, h4⟩ | ⟨ts, d, h1, h2, h3, h4, h5⟩
  · rw [h1, h2, h3]
    rw [h3] at hBel
    exact ⟨rfl, hBel⟩
  · rw [h1]
    simp only [h2]
    rw [h3, h4]
    rw [h4] at hBel
    exact ⟨rfl, hBel⟩
  · rw [h1]
    simp only [h2]
    rw [hzW] at h5
    refine ⟨x, by rw [h3], HI1.out.same' (Nat.le_of_eq hP1.symm) h5 fun k hk _ => putL_heap x.cl w1 (w.heap.size + 1) 0 k (by omega), h5.mono (by omega), h4, hBel⟩
 rw [← HS.out]
 exact hfin
theorem parse_alt (l : List UInt8) (w : World) (hl : l.length ≤ 20000) (hG : GL w) :
 Calls Tryz.prog 37 #[.string (ba l)] w fun e w' => (∃ n, e = .panicked (boom n) ∧ readD l = none ∧ Below w.heap.size w w') ∨ (∃ x : Dm, e = .returned x.w ∧ readD l = some x.df ∧ x.In w' ∧ Below w.heap.size w w') := by
 refine (parse_c l w (Nat.le_trans hl (by decide)) hG).mono ?_
 rintro e w' h
 unfold ParseS at h
 have hO : lexO l = lexL l := by unfold lexO; rw [if_pos hl]
 unfold readD
 rw [hO] at h
 cases hq : lexL l with
 | none => rw [hq] at h; exact .inl ⟨60, h.1, rfl, h.2⟩
 | some ts =>
   rw [hq] at h
   simp only [Option.bind_some]
   cases hp : parseD ts with
   | none => simp only [hp] at h; exact .inl ⟨70, h.1, rfl, h.2⟩
   | some d =>
     simp only [hp] at h
     obtain ⟨x, h1, h2, h3, h4, h5⟩ := h
     exact .inr ⟨x, h1, by rw [h4], h2, h5⟩
def WrtS (d : Df) (w : World) (e : Ending) (w' : World) : Prop := Below w.heap.size w w' ∧ ((∃ n, e = .panicked (boom n) ∧ PrT d []) ∨ (∃ l, e = .returned (.string (ba l)) ∧ PrT d l ∧ l ≠ [] ∧ l.length ≤ 20000))
theorem Gw.up {B C : Nat} {w : World} (h : Gw B w) (hc : B ≤ C) : Gw C w := ⟨h.gl, h.op, h.lt.le hc, Nat.lt_of_lt_of_le h.o hc⟩
set_option maxHeartbeats 8000000 in
theorem written_c (d : Dm) (w : World) (hG : Gw w.heap.size w) (hd : d.In w) (hok : DfOk d.df) :
 Calls Tryz.prog 32 #[d.w] w fun e w' => WrtS d.df w e w' := by
 obtain ⟨S, hS⟩ : ∃ S, WrtS d.df w = S := ⟨_, rfl⟩
 rw [hS]
 obtain ⟨dv, hdv⟩ : ∃ dv : Value, dv = d.w := ⟨_, rfl⟩
 obtain ⟨W, hW⟩ : ∃ W, (w.alloc (.cells d.cl.toArray 34)).alloc (.cells #[.pointer none, .slice none 0 0] 97) = W := ⟨_, rfl⟩
 have hz : W.heap.size = w.heap.size + 2 := by rw [← hW]; simp
 have HbW : Hid (Below w.heap.size w W) := Lib.hid (by rw [← hW]; exact (below_one w _).alloc (by simp) _)
 have HD : Hid (BkD W w.heap.size d) := Lib.hid (by rw [← hW]; exact (Bk.new w _ _).alloc _)
 have HR : Hid (Wr W (w.heap.size + 1) (w.heap.size + 1) []) := Lib.hid (by
  rw [← hW]
  refine .inl ⟨Nat.le_refl _, .slice none 0 0, ?_, Buf.nil _ _, by simp [Value.ownBlock]⟩
  have := Bk.new (w.alloc (.cells d.cl.toArray 34)) #[.pointer none, .slice none 0 0] 97
  simpa using this)
 have HGW : Hid (Gw (w.heap.size + 1) W) := Lib.hid ((hG.below HbW.out).up (Nat.le_succ _))
 have HDef := Lib.hid (def_w (w.heap.size + 1) (w.heap.size + 1) [] d W HR.out (by simp) HGW.out (fun u hu => hd.after (HbW.out.trans (hu.mono (by omega)))) hok)
 have HW : Hid ((w.alloc (.cells #[.int .i64 d.k, .string d.t.name, .slice d.t.cols.A d.t.cols.n d.t.cols.c, .slice d.t.chks.A d.t.chks.n d.t.chks.c, .string d.v.name, .string d.v.frm, .string d.v.wth, .int .i64 d.v.on0, .int .i64 d.v.on1, .slice d.v.whr.A d.v.whr.n d.v.whr.c, .slice d.v.pick.A d.v.pick.n d.v.pick.c, .bool d.v.grp, .slice d.v.aggs.A d.v.aggs.n d.v.aggs.c] 34)).alloc (.cells #[.pointer none, .slice none 0 0] 97) = W) := hW
 have HS := Lib.hid hS
 have Hd := Lib.hid hd
 have Hok := Lib.hid hok
 obtain ⟨c0, c1, c2, c3, c4, c5, c6, c7, c8, c9, c10, c11, c12, hlX⟩ := HD.out.all
 clear hS hW hG hd hok
 go_enter Tryz.func32, Tryz.ntmps32
 go_wp2_with fail
 rw [HW.out]
 refine HDef.out.mono ?_
 rintro e w1 hs
 rcases WS.yes (Wk.refl _ _ _) hs with ⟨rfl, h1, h2⟩ | ⟨rfl, l, h1, h2, h3, h4⟩
 · refine ⟨rfl, ?_⟩
   have h1 : wrO d.df = none := h1
   rw [← HS.out]
   exact ⟨HbW.out.trans (h2.below.mono (by omega)), .inl ⟨70, rfl, wr_no Hok.out.d64 fun l hl => by rw [h1] at hl; cases hl⟩⟩
 · have h1 : wrO d.df = some l := h1
   have Hne := Lib.hid (wr_ne h1)
   have H1 := Lib.hid h1
   have H3 := Lib.hid h3
   have HT := Lib.hid (wtext_c _ _ l w1 h2 Hne.out h3)
   have HB1 : Hid (Below w.heap.size w w1) := Lib.hid (HbW.out.trans (h4.below.mono (by omega)))
   have HD1 : Hid (BkD w1 w.heap.size d) := Lib.hid (h4.bk HD.out (by omega) (by decide))
   have HG1 := Lib.hid (HGW.out.below h4.below)
   have hlD := HD1.out.lt
   clear h1 h2 h3 h4 hs c0 c1 c2 c3 c4 c5 c6 c7 c8 c9 c10 c11 c12 hlX HDef HR
   go_wp2_with fail
   refine HT.out.mono ?_
   rintro e w2 ⟨rfl, hb2⟩
   have HB2 : Hid (Below w.heap.size w w2) := Lib.hid (HB1.out.trans (hb2.mono (by omega)))
   have HD2 : Hid (BkD w2 w.heap.size d) := Lib.hid (Bk.after HD1.out hb2 (by omega))
   have HG2 := Lib.hid (HG1.out.below hb2)
   have hl2 := HD2.out.lt
   have HP := Lib.hid (parse_alt l w2.drew H3.out (HG2.out.below (Below.refl _ _).drew).gl)
   have HSt : Hid (∀ w', Below w2.heap.size w2 w' → (w'.cell? ⟨w.heap.size, 0, none⟩ = some (.int .i64 d.k) ∧ w'.cell? ⟨w.heap.size, 1, none⟩ = some (.string d.t.name) ∧ w'.cell? ⟨w.heap.size, 2, none⟩ = some (.slice d.t.cols.A d.t.cols.n d.t.cols.c) ∧ w'.cell? ⟨w.heap.size, 3, none⟩ = some (.slice d.t.chks.A d.t.chks.n d.t.chks.c) ∧ w'.cell? ⟨w.heap.size, 4, none⟩ = some (.string d.v.name) ∧ w'.cell? ⟨w.heap.size, 5, none⟩ = some (.string d.v.frm) ∧ w'.cell? ⟨w.heap.size, 6, none⟩ = some (.string d.v.wth) ∧ w'.cell? ⟨w.heap.size, 7, none⟩ = some (.int .i64 d.v.on0) ∧ w'.cell? ⟨w.heap.size, 8, none⟩ = some (.int .i64 d.v.on1) ∧ w'.cell? ⟨w.heap.size, 9, none⟩ = some (.slice d.v.whr.A d.v.whr.n d.v.whr.c) ∧ w'.cell? ⟨w.heap.size, 10, none⟩ = some (.slice d.v.pick.A d.v.pick.n d.v.pick.c) ∧ w'.cell? ⟨w.heap.size, 11, none⟩ = some (.bool d.v.grp) ∧ w'.cell? ⟨w.heap.size, 12, none⟩ = some (.slice d.v.aggs.A d.v.aggs.n d.v.aggs.c))) := Lib.hid fun w' hb => by
    have hk : BkD w' w.heap.size d := Bk.after HD2.out hb hl2
    exact ⟨hk.cell 0, hk.cell 1, hk.cell 2, hk.cell 3, hk.cell 4, hk.cell 5, hk.cell 6, hk.cell 7, hk.cell 8, hk.cell 9, hk.cell 10, hk.cell 11, hk.cell 12⟩
   obtain ⟨c0, c1, c2, c3, c4, c5, c6, c7, c8, c9, c10, c11, c12⟩ := HSt.out w2 (Below.refl _ _)
   clear hb2 HT HB1 HD1 HG1 hlD
   go_wp2_with fail
   go_region_held2 (fun w' => w'.cell? ⟨w.heap.size, 0, none⟩ = some (.int .i64 d.k) ∧ w'.cell? ⟨w.heap.size, 1, none⟩ = some (.string d.t.name) ∧ w'.cell? ⟨w.heap.size, 2, none⟩ = some (.slice d.t.cols.A d.t.cols.n d.t.cols.c) ∧ w'.cell? ⟨w.heap.size, 3, none⟩ = some (.slice d.t.chks.A d.t.chks.n d.t.chks.c) ∧ w'.cell? ⟨w.heap.size, 4, none⟩ = some (.string d.v.name) ∧ w'.cell? ⟨w.heap.size, 5, none⟩ = some (.string d.v.frm) ∧ w'.cell? ⟨w.heap.size, 6, none⟩ = some (.string d.v.wth) ∧ w'.cell? ⟨w.heap.size, 7, none⟩ = some (.int .i64 d.v.on0) ∧ w'.cell? ⟨w.heap.size, 8, none⟩ = some (.int .i64 d.v.on1) ∧ w'.cell? ⟨w.heap.size, 9, none⟩ = some (.slice d.v.whr.A d.v.whr.n d.v.whr.c) ∧ w'.cell? ⟨w.heap.size, 10, none⟩ = some (.slice d.v.pick.A d.v.pick.n d.v.pick.c) ∧ w'.cell? ⟨w.heap.size, 11, none⟩ = some (.bool d.v.grp) ∧ w'.cell? ⟨w.heap.size, 12, none⟩ = some (.slice d.v.aggs.A d.v.aggs.n d.v.aggs.c))
    (first
      | exact HSt.out _ HbS.out
      | go_keep)
    (first
      | (go_at_call 37
         with_reducible refine HP.out.mono ?_
         rintro e w3 (⟨n, rfl, hr, hb⟩ | ⟨x, rfl, hr, hi, hb⟩)
         · refine ⟨rfl, ?_⟩
           rw [← HS.out]
           exact ⟨HB2.out.trans ((below_via (Below.refl w2.heap.size w2).drew hb).mono HB2.out.size), .inl ⟨n, rfl, wr_no Hok.out.d64 fun l' hl => by rw [H1.out] at hl; rw [← Option.some.inj hl, hr]; simp⟩⟩
         have HbS : Hid (Below w2.heap.size w2 w3) := Lib.hid (below_via (Below.refl w2.heap.size w2).drew hb)
         have HRd := Lib.hid hr
         have HSm := Lib.hid (smD_c x d w3 hi (Hd.out.after (HB2.out.trans (HbS.out.mono HB2.out.size))))
         clear hb hi hr HP)
      | (go_at_call 57
         with_reducible refine HSm.out.mono ?_
         rintro e w4 ⟨rfl, hb4⟩
         have HbT : Hid (Below w2.heap.size w2 w4) := Lib.hid (below_via HbS.out hb4)
         clear HbS HSm hb4
         have HbS := HbT
         clear HbT
         obtain ⟨D, hD⟩ : ∃ D, decide (x.df = d.df) = D := ⟨_, rfl⟩
         rw [hD]
         have HDd := Lib.hid hD
         clear hD)
      | (go_at_call 56
         refine (req_c D w4).mono ?_
         rintro e w5 ⟨he, rfl⟩
         cases D
         · obtain rfl : e = .panicked (boom 70) := he
           refine ⟨rfl, ?_⟩
           rw [← HS.out]
           exact ⟨HB2.out.trans (HbS.out.mono HB2.out.size), .inl ⟨70, rfl, wr_no Hok.out.d64 fun l' hl => by rw [H1.out] at hl; rw [← Option.some.inj hl, HRd.out]; intro h; exact absurd (Option.some.inj h) (of_decide_eq_false HDd.out)⟩⟩
         obtain rfl : e = .returned (.tuple #[]) := he))
   all_goals
    have HF : Hid (WrtS d.df w (.returned (.string (ba l))) w5) := Lib.hid ⟨HB2.out.trans (HbS.out.mono HB2.out.size), .inr ⟨l, rfl, wr_yes H1.out (by rw [HRd.out, of_decide_eq_true HDd.out]), Hne.out, H3.out⟩⟩
    clear c0 c1 c2 c3 c4 c5 c6 c7 c8 c9 c10 c11 c12 HSt HbS
    go_wp2
    show S (.returned (.string (ba l))) w5
    rw [← HS.out]
    exact HF.out
def PrtR (d : Df) (b : Nat) (w w' : World) : Prop := ∃ t, PrT d t ∧ t.length ≤ 20000 ∧ Bk w' b #[.string (ba t)] 9 ∧ Apb b w w'
set_option maxHeartbeats 4000000 in
theorem prt1_c (d : Dm) (D bs : Nat) (w : World) (hG : Gw w.heap.size w) (hd : d.In w) (hok : DfOk d.df) (hD : BkD w D d) (hs : Bk w bs #[.string emp] 9) :
 Calls Tryz.prog 31 #[.pointer (some ⟨D, 0, none⟩), .pointer (some ⟨bs, 0, none⟩)] w fun e w' => (e = .returned (.tuple #[]) ∧ PrtR d.df bs w w') ∨ (∃ n, e = .panicked (boom n) ∧ PrtR d.df bs w w') := by
 obtain ⟨Q, hQ⟩ : ∃ Q : Ending → World → Prop, (fun e w' => (e = .returned (.tuple #[]) ∧ PrtR d.df bs w w') ∨ (∃ n, e = .panicked (boom n) ∧ PrtR d.df bs w w')) = Q := ⟨_, rfl⟩
 have HQ := Lib.hid hQ
 show Calls _ _ _ _ (fun e w' => (fun e w' => (e = .returned (.tuple #[]) ∧ PrtR d.df bs w w') ∨ (∃ n, e = .panicked (boom n) ∧ PrtR d.df bs w w')) e w')
 rw [hQ]
 have HW := Lib.hid (written_c d w hG hd hok)
 have HS := Lib.hid hs
 have hls := hs.lt
 obtain ⟨c0, c1, c2, c3, c4, c5, c6, c7, c8, c9, c10, c11, c12, hlX⟩ := hD.all
 clear hG hd hok hD hs hQ
 go_enter Tryz.func31, Tryz.ntmps31
 go_wp2_with fail
 refine HW.out.mono ?_
 rintro e w1 ⟨hb, ⟨n, rfl, hp⟩ | ⟨l, rfl, hp, hne, hl⟩⟩
 · refine ⟨rfl, ?_⟩
   rw [← HQ.out]
   exact .inr ⟨n, rfl, [], hp, Nat.zero_le _, Bk.after HS.out hb hls, (Apb.refl bs w).then hb (Nat.le_refl _)⟩
 · have hk : Bk w1 bs #[.string emp] 9 := Bk.after HS.out hb hls
   have Hk := Lib.hid hk
   have k0 : w1.cell? ⟨bs, 0, none⟩ = some (.string emp) := hk.cell 0
   have f0 := hk.thaw 0
   have HP := Lib.hid hp
   have HL := Lib.hid hl
   have HA : Hid (Apb bs w w1) := Lib.hid ((Apb.refl bs w).then hb (Nat.le_refl _))
   clear hk hb hp hne hl HW HS c0 c1 c2 c3 c4 c5 c6 c7 c8 c9 c10 c11 c12
   go_wp2
   go_end0
   rw [← HQ.out]
   exact .inl ⟨rfl, l, HP.out, HL.out, Hk.out.set 0 _, HA.out.set 0 _⟩
set_option maxHeartbeats 4000000 in
theorem dprint_c (d : Dm) (w : World) (hG : Gw w.heap.size w) (hd : d.In w) (hok : DfOk d.df) :
 Calls Tryz.prog 14 #[d.w] w fun e w' => ∃ t, e = .returned (.string (ba t)) ∧ PrT d.df t ∧ t.length ≤ 20000 ∧ Below w.heap.size w w' := by
 obtain ⟨W, hW⟩ : ∃ W, (w.alloc (.cells d.cl.toArray 34)).alloc (.cells #[.string emp] 9) = W := ⟨_, rfl⟩
 have hz : W.heap.size = w.heap.size + 2 := by rw [← hW]; simp
 have hbW : Below w.heap.size w W := by rw [← hW]; exact (below_one w _).alloc (by simp) _
 have HBd : Hid (BkD W w.heap.size d) := Lib.hid (by rw [← hW]; exact (Bk.new w _ _).alloc _)
 have HBs : Hid (Bk W (w.heap.size + 1) #[.string emp] 9) := Lib.hid (by
  rw [← hW]
  have := Bk.new (w.alloc (.cells d.cl.toArray 34)) #[.string emp] 9
  simpa using this)
 have hzW : (W.alloc (.cells #[.int .i64 0] 38)).heap.size = w.heap.size + 3 := by simp; omega
 have hb1 := below_one W (.cells #[.int .i64 0] 38)
 have HA := Lib.hid (attempt_c 31 #[.pointer (some ⟨w.heap.size, 0, none⟩), .pointer (some ⟨w.heap.size + 1, 0, none⟩)] (fun u => by kernel_rfl) (fun n w' => PrtR d.df (w.heap.size + 1) (W.alloc (.cells #[.int .i64 0] 38)) w') W (by
  refine (prt1_c d w.heap.size (w.heap.size + 1) _ (((hG.below hbW).below (hb1.mono (by omega))).up (by omega)) (hd.after (hbW.trans (hb1.mono (by omega)))) hok (Bk.after HBd.out hb1 (by omega)) (Bk.after HBs.out hb1 (by omega))).mono ?_
  have hE := Bk.new W #[.int .i64 0] 38
  rintro e w' (⟨h1, h2⟩ | ⟨n, h1, h2⟩)
  · obtain ⟨t, _, _, _, ha⟩ := id h2
    exact .inl ⟨h1, h2, hE.kept ha (by omega)⟩
  · obtain ⟨t, _, _, _, ha⟩ := id h2
    exact .inr ⟨n, h1, h2, hE.kept ha (by omega)⟩))
 have hmf : ∀ (fn : Fn) (first cap : Array Value) (w : World), (Instr.makeFunc fn first cap).run Tryz.prog w = .ok (.func fn first cap) w := fun _ _ _ _ => rfl
 obtain ⟨S, hS⟩ : ∃ S : Ending → World → Prop, (fun e w' => ∃ t, e = .returned (.string (ba t)) ∧ PrT d.df t ∧ t.length ≤ 20000 ∧ Below w.heap.size w w') = S := ⟨_, rfl⟩
 show Calls _ _ _ _ (fun e w' => (fun e w' => ∃ t, e = .returned (.string (ba t)) ∧ PrT d.df t ∧ t.length ≤ 20000 ∧ Below w.heap.size w w') e w')
 rw [hS]
 have HS := Lib.hid hS
 have HbW := Lib.hid hbW
 have HW : Hid ((w.alloc (.cells #[.int .i64 d.k, .string d.t.name, .slice d.t.cols.A d.t.cols.n d.t.cols.c, .slice d.t.chks.A d.t.chks.n d.t.chks.c, .string d.v.name, .string d.v.frm, .string d.v.wth, .int .i64 d.v.on0, .int .i64 d.v.on1, .slice d.v.whr.A d.v.whr.n d.v.whr.c, .slice d.v.pick.A d.v.pick.n d.v.pick.c, .bool d.v.grp, .slice d.v.aggs.A d.v.aggs.n d.v.aggs.c] 34)).alloc (.cells #[.string ⟨#[]⟩] 9) = W) := hW
 clear hS hbW hW hG hd hok
 go_enter Tryz.func14, Tryz.ntmps14
 go_wp2_with fail
 rw [HW.out]
 refine HA.out.mono ?_
 rintro e w1 ⟨n, w2, rfl, ⟨t, hp, hl, hbk, hap⟩, ha⟩
 have hs2 := hap.size
 have hB1 : Bk w1 (w.heap.size + 1) #[.string (ba t)] 9 := Bk.kept hbk ha (by omega)
 have Hbel : Hid (Below w.heap.size w w1) := Lib.hid (by
  have h1 := HbW.out
  have h2 := below_one W (.cells #[.int .i64 0] 38)
  refine ⟨ha.os.trans (hap.os.trans (h2.os.trans h1.os)), ha.tape.trans (hap.tape.trans (h2.tape.trans h1.tape)), ha.output.trans (hap.output.trans (h2.output.trans h1.output)), by have := ha.size; omega, fun k hk => ?_⟩
  exact (ha.other k (by omega) (by omega)).trans ((hap.other k (by omega) (by omega)).trans ((h2.block k (by omega)).trans (h1.block k hk))))
 have k0 : w1.cell? ⟨w.heap.size + 1, 0, none⟩ = some (.string (ba t)) := hB1.cell 0
 have HP := Lib.hid (And.intro hp hl)
 clear hp hl hbk hap ha hB1 HA hs2
 go_wp2
 show S (.returned (.string (ba t))) w1
 rw [← HS.out]
 exact ⟨t, rfl, HP.out.1, HP.out.2, Hbel.out⟩
set_option maxHeartbeats 4000000 in
theorem dmay_c (d : Dm) (w : World) (hG : Gw w.heap.size w) (hd : d.In w) (hok : DfOk d.df) :
 Calls Tryz.prog 16 #[d.w] w fun e w' => ∃ t, e = .returned (.bool (decide (t ≠ []))) ∧ PrT d.df t ∧ t.length ≤ 20000 ∧ Below w.heap.size w w' := by
 obtain ⟨W, hW⟩ : ∃ W, w.alloc (.cells d.cl.toArray 34) = W := ⟨_, rfl⟩
 have hbW : Below w.heap.size w W := by rw [← hW]; exact below_one w _
 have HBd : Hid (BkD W w.heap.size d) := Lib.hid (by rw [← hW]; exact Bk.new w _ _)
 have HP := Lib.hid (dprint_c d W ((hG.below hbW).up hbW.size) (hd.after hbW) hok)
 obtain ⟨S, hS⟩ : ∃ S : Ending → World → Prop, (fun e w' => ∃ t, e = .returned (.bool (decide (t ≠ []))) ∧ PrT d.df t ∧ t.length ≤ 20000 ∧ Below w.heap.size w w') = S := ⟨_, rfl⟩
 show Calls _ _ _ _ (fun e w' => (fun e w' => ∃ t, e = .returned (.bool (decide (t ≠ []))) ∧ PrT d.df t ∧ t.length ≤ 20000 ∧ Below w.heap.size w w') e w')
 rw [hS]
 have HS := Lib.hid hS
 have HbW := Lib.hid hbW
 have HW : Hid (w.alloc (.cells #[.int .i64 d.k, .string d.t.name, .slice d.t.cols.A d.t.cols.n d.t.cols.c, .slice d.t.chks.A d.t.chks.n d.t.chks.c, .string d.v.name, .string d.v.frm, .string d.v.wth, .int .i64 d.v.on0, .int .i64 d.v.on1, .slice d.v.whr.A d.v.whr.n d.v.whr.c, .slice d.v.pick.A d.v.pick.n d.v.pick.c, .bool d.v.grp, .slice d.v.aggs.A d.v.aggs.n d.v.aggs.c] 34) = W) := hW
 clear hS hbW hW hG hd hok
 go_enter Tryz.func16, Tryz.ntmps16
 go_wp2_with fail
 rw [HW.out]
 refine HP.out.mono ?_
 rintro e w1 ⟨t, rfl, hp, hl, hb⟩
 have hF : S (.returned (.bool (decide (t ≠ [])))) w1 := by
  rw [← HS.out]
  exact ⟨t, rfl, hp, hl, below_via HbW.out hb⟩
 have HF := Lib.hid hF
 clear hp hl hb hF HP
 cases t with
 | nil =>
   go_wp2
   exact HF.out
 | cons c r =>
   obtain ⟨u, hu⟩ : ∃ u, ba (c :: r) = u := ⟨_, rfl⟩
   have hn : u.size ≠ 0 := by rw [← hu]; show (c :: r).length ≠ 0; simp
   have hu2 := size_ne hn
   rw [hu]
   clear hu hn
   go_wp2
   exact HF.out
def errO (l : List UInt8) : Int := match lexO l with
 | none => 60
 | some ts => match parseD ts with
   | none => 70
   | some _ => 0
def defO (l : List UInt8) : Df := match lexO l with
 | none => df0
 | some ts => (parseD ts).getD df0
theorem prs (l : List UInt8) (w : World) (hl : l.length ≤ maxLen) (hG : GL w) :
 Calls Tryz.prog 17 #[.string (ba l)] w fun e w' => ∃ x : Dm, e = .returned (.tuple #[x.w, .int .i64 (errO l)]) ∧ x.In w' ∧ x.df = defO l ∧ Below w.heap.size w w' := by
 refine (prs_c l w hl hG).mono ?_
 rintro e w' h
 unfold PrsS at h
 unfold errO defO
 cases hq : lexO l with
 | none => rw [hq] at h; exact ⟨dm0, h.1, dm0_in _, rfl, h.2⟩
 | some ts =>
   rw [hq] at h
   simp only
   cases hp : parseD ts with
   | none => simp only [hp] at h; exact ⟨dm0, h.1, dm0_in _, rfl, h.2⟩
   | some d =>
     simp only [hp] at h
     obtain ⟨x, h1, h2, h3, h4, h5⟩ := h
     exact ⟨x, h1, h2, h4, h5⟩
theorem err_zero {l : List UInt8} (h : errO l = 0) : readD l = some (defO l) ∧ l.length ≤ 20000 := by
 unfold errO at h
 unfold readD defO
 cases hq : lexO l with
 | none => rw [hq] at h; cases h
 | some ts =>
   rw [hq] at h
   have hl : l.length ≤ 20000 ∧ lexL l = some ts := by
    unfold lexO at hq
    split at hq
    · rename_i h; exact ⟨h, hq⟩
    · cases hq
   rw [hl.2]
   cases hp : parseD ts with
   | none => simp only [hp] at h; cases h
   | some d => exact ⟨by simp [hp], hl.1⟩
theorem err_ne {l : List UInt8} (h : errO l ≠ 0) : defO l = df0 := by
 unfold errO at h
 unfold defO
 cases hq : lexO l with
 | none => rfl
 | some ts =>
   rw [hq] at h
   simp only at h ⊢
   cases hp : parseD ts with
   | none => rfl
   | some d => rw [hp] at h; exact absurd rfl h
theorem nd_ok {x : Nd} (h : mayNd x = true) (h6 : N64 x) : NdOk x := by
 obtain ⟨op, n, v⟩ := x
 unfold mayNd at h
 simp only at h
 by_cases h0 : op = 0
 · subst h0
   simp only [if_true, Bool.and_eq_true] at h
   have hn := h.1
   unfold colB at hn
   simp only [Bool.and_eq_true, decide_eq_true_eq] at hn
   refine ⟨by simp only; omega, h6, ?_⟩
   rw [Val.eq_iff.1 h.2]; exact (by decide : nl.s.size ≤ 2000)
 · rw [if_neg h0] at h
   by_cases h1 : op = 1
   · subst h1
     simp only [if_true, Bool.and_eq_true, decide_eq_true_eq] at h
     refine ⟨by simp only; omega, h6, ?_⟩
     have hv := valid_of_may _ h.2
     have he : emp.size = 0 := rfl
     rcases hv with ⟨_, _, e⟩ | ⟨_, _, e⟩ | ⟨_, e⟩ | ⟨_, _, e⟩
     · show v.s.size ≤ 2000; rw [e, he]; omega
     · show v.s.size ≤ 2000; rw [e, he]; omega
     · show v.s.size ≤ 2000; rw [e, he]; omega
     · show v.s.size ≤ 2000; omega
   · rw [if_neg h1] at h
     simp only [Bool.and_eq_true, decide_eq_true_eq] at h
     refine ⟨by simp only; omega, h6, ?_⟩
     rw [Val.eq_iff.1 h.2.2.2]; exact (by decide : nl.s.size ≤ 2000)
theorem nm_len {b : ByteArray} (h : nameB b.data.toList = true) : b.size ≤ 30 := by
 unfold nameB at h
 simp only [Bool.and_eq_true] at h
 have hw := h.1
 unfold wordB at hw
 have e : b.size = b.data.toList.length := rfl
 split at hw
 · cases hw
 · rename_i c r hc
   simp only [Bool.and_eq_true, decide_eq_true_eq] at hw
   rw [e, hc]; exact hw.1
theorem emp_size {b : ByteArray} (h : b.toList.isEmpty = true) : b.size = 0 := by rw [emp_of h]; rfl
theorem col_i64 {n : Int} (h : colB n = true) : I64 n := by
 unfold colB at h
 simp only [Bool.and_eq_true, decide_eq_true_eq] at h
 unfold I64; omega
theorem tb0_ok : TbOk tb0 := ⟨by decide, fun c hc => (by cases hc), fun e he => (by cases he)⟩
theorem vw0_ok : VwOk vw0 := ⟨by decide, by decide, by decide, by unfold I64 vw0; simp, by unfold I64 vw0; simp, fun x hx => (by cases hx), fun x hx => (by cases hx), fun a ha => (by cases ha)⟩
theorem may_ok {d : Df} (h : MayD d) (h6 : D64 d) : DfOk d := by
 obtain ⟨k, t, v⟩ := d
 rcases h with ⟨rfl, h1, rfl⟩ | ⟨rfl, rfl, h1⟩
 · refine ⟨?_, vw0_ok⟩
   unfold mayTb at h1
   simp only [Bool.and_eq_true, List.all_eq_true] at h1
   obtain ⟨a1, a2, a3, a4, a5, a6⟩ := h1
   refine ⟨by have := nm_len a1; simp only; omega, fun c hc => ?_, fun e he x hx => ?_⟩
   · have h := a5 c hc
     unfold mayCl at h
     simp only [Bool.and_eq_true] at h
     have hn := nm_len h.1
     have hr : c.ref.size ≤ 30 := by
      have h4 := h.2.2.2
      split at h4
      · rename_i h5; rw [emp_size h5]; omega
      · simp only [Bool.and_eq_true] at h4; exact nm_len h4.1
     omega
   · have h := a6 e he
     unfold mayE at h
     simp only [Bool.and_eq_true, List.all_eq_true] at h
     exact nd_ok (h.2 x hx) (h6.1 e he x hx)
 · refine ⟨tb0_ok, ?_⟩
   unfold mayVw at h1
   simp only [Bool.and_eq_true, List.all_eq_true] at h1
   obtain ⟨a1, a2, a3, a4, a5, a6, a7, a8, a9⟩ := h1
   have z : I64 0 := by unfold I64; omega
   have hj : v.wth.size ≤ 30 ∧ I64 v.on0 ∧ I64 v.on1 := by
    split at a3
    · rename_i h5
      simp only [Bool.and_eq_true, decide_eq_true_eq] at a3
      rw [emp_size h5, a3.1, a3.2]; exact ⟨by omega, z, z⟩
    · simp only [Bool.and_eq_true] at a3
      exact ⟨nm_len a3.1, col_i64 a3.2.1, col_i64 a3.2.2⟩
   unfold mayE at a4
   simp only [Bool.and_eq_true, List.all_eq_true] at a4
   refine ⟨by have := nm_len a1; simp only; omega, by have := nm_len a2; simp only; omega, by have := hj.1; simp only; omega, hj.2.1, hj.2.2, fun x hx => nd_ok (a4.2 x hx) (h6.2 x hx), fun x hx => col_i64 (a6 x hx), fun a ha => ?_⟩
   have h := a8 a ha
   unfold mayAg at h
   split at h
   · simp only [decide_eq_true_eq] at h; rw [h]; exact z
   · simp only [Bool.and_eq_true] at h; exact col_i64 h.2.2
theorem df0_ok : DfOk df0 := ⟨tb0_ok, vw0_ok⟩
theorem def_ok (l : List UInt8) : DfOk (defO l) := by
 by_cases h : errO l = 0
 · have := read_may (err_zero h).1
   exact may_ok this.1 this.2.1
 · rw [err_ne h]; exact df0_ok
theorem prt_read {l t : List UInt8} {d : Df} (h : readD l = some d) (hl : l.length ≤ 10000) (ht : PrT d t) : t = printL (toksD d) ∧ t ≠ [] ∧ MayD d := by
 have hm := read_may h
 have h2 : (printL (toksD d)).length ≤ 20000 := by omega
 rcases id ht with ⟨_, _, e⟩ | ⟨e, _⟩
 · exact ⟨e, fun hn => (ht.empty.1 hn) ⟨hm.1, h2⟩, hm.1⟩
 · exact absurd ⟨hm.1, h2⟩ e
theorem run_eqC (w : World) (a b : ByteArray) (k k' ac ac' : Int) (nu un nu' un' : Bool) (r r' : ByteArray) : (binOp .eql 64 (.agg #[.string a, .int .i64 k, .bool nu, .bool un, .string r, .int .i64 ac]) (.agg #[.string b, .int .i64 k', .bool nu', .bool un', .string r', .int .i64 ac'])).run Tryz.prog w = .ok (.bool (Cl.eqB ⟨a, k, nu, un, r, ac⟩ ⟨b, k', nu', un', r', ac'⟩)) w := by
 have e : (Op.equalIn 10000 64 (.agg #[.string a, .int .i64 k, .bool nu, .bool un, .string r, .int .i64 ac]) (.agg #[.string b, .int .i64 k', .bool nu', .bool un', .string r', .int .i64 ac'])).run Tryz.prog w = .ok (decide ((⟨a, k, nu, un, r, ac⟩ : Cl) = ⟨b, k', nu', un', r', ac'⟩)) w := by
  simp [go_sem, Tryz.underlying64, Tryz.underlying3, Tryz.underlying4, Tryz.underlying9]
  have hs : ∀ x y : ByteArray, (x.toList = y.toList) ↔ x = y := fun x y => ⟨toList_inj, fun h => by rw [h]⟩
  by_cases h1 : a = b <;> by_cases h2 : k = k' <;> by_cases h3 : nu = nu' <;> by_cases h4 : un = un' <;> by_cases h5 : r = r' <;> by_cases h6 : ac = ac' <;> simp [hs, h1, h2, h3, h4, h5, h6]
 rw [run_eql_struct, e]; rfl
def fx1 : List UInt8 := [116, 97, 98, 108, 101, 32, 116, 40, 107, 32, 105, 110, 116, 44, 32, 97, 32, 116, 101, 120, 116, 32, 110, 117, 108, 108, 32, 114, 101, 102, 32, 117, 32, 99, 97, 115, 99, 97, 100, 101, 41, 32, 99, 104, 101, 99, 107, 32, 91, 99, 48, 32, 48, 32, 60, 93]
def fx2 : List UInt8 := [118, 105, 101, 119, 32, 118, 32, 102, 114, 111, 109, 32, 116, 32, 119, 104, 101, 114, 101, 32, 91, 99, 48, 32, 110, 117, 108, 108, 32, 63, 93, 32, 112, 105, 99, 107, 32, 49, 32, 103, 114, 111, 117, 112, 32, 99, 111, 117, 110, 116, 44, 32, 115, 117, 109, 32, 48]
def fx3 : List UInt8 := [116, 97, 98, 108, 101, 32, 116, 40, 41]
def fx4 : List UInt8 := [116, 97, 98, 108, 101, 32, 116, 97, 98, 108, 101, 40, 107, 32, 105, 110, 116, 41]
def fp2 : List UInt8 := [118, 105, 101, 119, 32, 118, 32, 102, 114, 111, 109, 32, 116, 32, 119, 104, 101, 114, 101, 32, 91, 32, 99, 48, 32, 110, 117, 108, 108, 32, 63, 32, 93, 32, 112, 105, 99, 107, 32, 49, 32, 103, 114, 111, 117, 112, 32, 99, 111, 117, 110, 116, 32, 44, 32, 115, 117, 109, 32, 48]
theorem fx_e1 : errO fx1 = 0 := by kernel_rfl
theorem fx_e2 : errO fx2 = 0 := by kernel_rfl
theorem fx_e3 : errO fx3 = 70 := by kernel_rfl
theorem fx_e4 : errO fx4 = 70 := by kernel_rfl
theorem fx_c1 : (defO fx1).t.cols.length = 2 := by kernel_rfl
theorem fx_c2 : (defO fx1).t.cols[1]? = some ⟨ba [97], 3, true, false, ba [117], 1⟩ := by kernel_rfl
theorem fx_g : (defO fx2).v.grp = true := by kernel_rfl
theorem fx_a : (defO fx2).v.aggs.length = 2 := by kernel_rfl
theorem fx_w : (defO fx2).v.whr.length = 2 := by kernel_rfl
theorem fx_o : ((defO fx2).v.whr[1]?).map (·.op) = some 10 := by kernel_rfl
theorem fx_p : printL (toksD (defO fx2)) = fp2 := by kernel_rfl
theorem fx_l1 : fx1.length ≤ 2000 := by decide
theorem fx_l2 : fx2.length ≤ 2000 := by decide
section
attribute [local go_sem ↓] run_eqC
set_option maxHeartbeats 8000000 in
theorem fixed7_c (w : World) (hG : Gw w.heap.size w) : Calls Tryz.prog 13 #[] w fun e w' => e = .returned (.bool true) ∧ Below w.heap.size w w' := by
 have HG := Lib.hid hG
 have HQ1 := Lib.hid (prs fx1 w (by decide) hG.gl)
 have HQ2 := Lib.hid (fun u (h : Below w.heap.size w u) => prs fx2 u (by decide) (hG.below h).gl)
 have HQ3 := Lib.hid (fun u (h : Below w.heap.size w u) => prs fx3 u (by decide) (hG.below h).gl)
 have HQ4 := Lib.hid (fun u (h : Below w.heap.size w u) => prs fx4 u (by decide) (hG.below h).gl)
 rw [fx_e1] at HQ1
 rw [fx_e2] at HQ2
 rw [fx_e3] at HQ3
 rw [fx_e4] at HQ4
 clear hG
 go_enter Tryz.func13, Tryz.ntmps13
 go_wp2_with fail
 refine HQ1.out.mono ?_
 rintro e w1 ⟨x, rfl, hi, hd, hb⟩
 obtain ⟨W1, hW1⟩ : ∃ W1, w1.alloc (.cells #[.int .i64 x.k, .string x.t.name, .slice x.t.cols.A x.t.cols.n x.t.cols.c, .slice x.t.chks.A x.t.chks.n x.t.chks.c, .string x.v.name, .string x.v.frm, .string x.v.wth, .int .i64 x.v.on0, .int .i64 x.v.on1, .slice x.v.whr.A x.v.whr.n x.v.whr.c, .slice x.v.pick.A x.v.pick.n x.v.pick.c, .bool x.v.grp, .slice x.v.aggs.A x.v.aggs.n x.v.aggs.c] 34) = W1 := ⟨_, rfl⟩
 have Hx : Hid (x.In W1) := Lib.hid (by rw [← hW1]; exact hi.after (below_one _ _))
 have Hxd := Lib.hid hd
 have HB1 : Hid (Below w.heap.size w W1) := Lib.hid (by rw [← hW1]; exact below_al hb _)
 have Hk1 : Hid (BkD W1 w1.heap.size x) := Lib.hid (by rw [← hW1]; exact Bk.new _ _ _)
 have hs1 : w.heap.size ≤ w1.heap.size := hb.size
 have HE1 := Lib.hid hW1
 clear hi hd hb hW1 HQ1
 go_wp2_with fail
 rw [HE1.out]
 refine (HQ2.out W1 HB1.out).mono ?_
 rintro e w2 ⟨y, rfl, hi, hd, hb⟩
 obtain ⟨W2, hW2⟩ : ∃ W2, w2.alloc (.cells #[.int .i64 y.k, .string y.t.name, .slice y.t.cols.A y.t.cols.n y.t.cols.c, .slice y.t.chks.A y.t.chks.n y.t.chks.c, .string y.v.name, .string y.v.frm, .string y.v.wth, .int .i64 y.v.on0, .int .i64 y.v.on1, .slice y.v.whr.A y.v.whr.n y.v.whr.c, .slice y.v.pick.A y.v.pick.n y.v.pick.c, .bool y.v.grp, .slice y.v.aggs.A y.v.aggs.n y.v.aggs.c] 34) = W2 := ⟨_, rfl⟩
 have hb12 : Below W1.heap.size W1 W2 := by rw [← hW2]; exact below_al hb _
 have Hy : Hid (y.In W2) := Lib.hid (by rw [← hW2]; exact hi.after (below_one _ _))
 have Hyd := Lib.hid hd
 have HB2 : Hid (Below w.heap.size w W2) := Lib.hid (below_via HB1.out hb12)
 have Hk2 : Hid (BkD W2 w2.heap.size y) := Lib.hid (by rw [← hW2]; exact Bk.new _ _ _)
 have Hb12 := Lib.hid hb12
 have HE2 := Lib.hid hW2
 clear hi hd hb hW2 hb12 HE1 HQ2
 go_wp2_with fail
 rw [HE2.out]
 refine (HQ3.out W2 HB2.out).mono ?_
 rintro e w3 ⟨z, rfl, hi, hd, hb⟩
 obtain ⟨W3, hW3⟩ : ∃ W3, w3.alloc (.cells #[.int .i64 z.k, .string z.t.name, .slice z.t.cols.A z.t.cols.n z.t.cols.c, .slice z.t.chks.A z.t.chks.n z.t.chks.c, .string z.v.name, .string z.v.frm, .string z.v.wth, .int .i64 z.v.on0, .int .i64 z.v.on1, .slice z.v.whr.A z.v.whr.n z.v.whr.c, .slice z.v.pick.A z.v.pick.n z.v.pick.c, .bool z.v.grp, .slice z.v.aggs.A z.v.aggs.n z.v.aggs.c] 34) = W3 := ⟨_, rfl⟩
 have hb23 : Below W2.heap.size W2 W3 := by rw [← hW3]; exact below_al hb _
 have HB3 : Hid (Below w.heap.size w W3) := Lib.hid (below_via HB2.out hb23)
 have Hb23 := Lib.hid hb23
 have HE3 := Lib.hid hW3
 clear hi hd hb hW3 hb23 HE2 HQ3
 go_wp2_with fail
 rw [HE3.out]
 refine (HQ4.out W3 HB3.out).mono ?_
 rintro e w4 ⟨u, rfl, hi, hd, hb⟩
 obtain ⟨W4, hW4⟩ : ∃ W4, w4.alloc (.cells #[.int .i64 u.k, .string u.t.name, .slice u.t.cols.A u.t.cols.n u.t.cols.c, .slice u.t.chks.A u.t.chks.n u.t.chks.c, .string u.v.name, .string u.v.frm, .string u.v.wth, .int .i64 u.v.on0, .int .i64 u.v.on1, .slice u.v.whr.A u.v.whr.n u.v.whr.c, .slice u.v.pick.A u.v.pick.n u.v.pick.c, .bool u.v.grp, .slice u.v.aggs.A u.v.aggs.n u.v.aggs.c] 34) = W4 := ⟨_, rfl⟩
 have hb34 : Below W3.heap.size W3 W4 := by rw [← hW4]; exact below_al hb _
 have HB4 : Hid (Below w.heap.size w W4) := Lib.hid (below_via HB3.out hb34)
 have HX : Hid (x.In W4) := Lib.hid (Hx.out.after (below_via (below_via Hb12.out Hb23.out) hb34))
 have HY : Hid (y.In W4) := Lib.hid (Hy.out.after (below_via Hb23.out hb34))
 have HKx : Hid (BkD W4 w1.heap.size x) := Lib.hid (Bk.after Hk1.out (below_via (below_via Hb12.out Hb23.out) hb34) Hk1.out.lt)
 have HKy : Hid (BkD W4 w2.heap.size y) := Lib.hid (Bk.after Hk2.out (below_via Hb23.out hb34) Hk2.out.lt)
 obtain ⟨x0, x1, x2, x3, x4, x5, x6, x7, x8, x9, x10, x11, x12, xl⟩ := HKx.out.all
 obtain ⟨y0, y1, y2, y3, y4, y5, y6, y7, y8, y9, y10, y11, y12, yl⟩ := HKy.out.all
 have hxc : x.t.cols.xs = (defO fx1).t.cols := congrArg (fun d : Df => d.t.cols) Hxd.out
 have hyg : y.v.grp = true := (congrArg (fun d : Df => d.v.grp) Hyd.out).trans fx_g
 have hya : y.v.aggs.xs = (defO fx2).v.aggs := congrArg (fun d : Df => d.v.aggs) Hyd.out
 have hyw : y.v.whr.xs = (defO fx2).v.whr := congrArg (fun d : Df => d.v.whr) Hyd.out
 have n1 : x.t.cols.n = 2 := by rw [← HX.out.t.cols.len, hxc, fx_c1]
 have n2 : y.v.aggs.n = 2 := by rw [← HY.out.v.aggs.len, hya, fx_a]
 have n3 : y.v.whr.n = 2 := by rw [← HY.out.v.whr.len, hyw, fx_w]
 obtain ⟨g1, o1, c1, hA1, hg1, hc1, hcell1⟩ := HX.out.t.cols.sl.atS (k := 1) (by rw [hxc, fx_c1]; decide)
 have ec1 : c1 = ⟨ba [97], 3, true, false, ba [117], 1⟩ := by
  rw [hxc, fx_c2] at hc1
  exact (Option.some.inj hc1).symm
 subst ec1
 have k0 := hcell1 0 _ rfl
 have k1 := hcell1 1 _ rfl
 have k2 := hcell1 2 _ rfl
 have k3 := hcell1 3 _ rfl
 have k4 := hcell1 4 _ rfl
 have k5 := hcell1 5 _ rfl
 obtain ⟨g2, o2, c2, hA2, hg2, hc2, hcell2⟩ := HY.out.v.whr.sl.atS (k := 1) (by rw [hyw, fx_w]; decide)
 have eo2 : c2.op = 10 := by
  have := fx_o
  rw [← hyw, hc2] at this
  exact Option.some.inj this
 have m0 := hcell2 0 _ rfl
 rw [eo2] at m0
 rw [n1, hA1] at x2
 rw [hyg] at y11
 rw [n2] at y12
 rw [n3, hA2] at y9
 have hEq : Cl.eqB ⟨ba [97], 3, true, false, ba [117], 1⟩ ⟨⟨#[97]⟩, 3, true, false, ⟨#[117]⟩, 1⟩ = true := by kernel_rfl
 have HP := Lib.hid (dprint_c y W4 ((HG.out.below HB4.out).up HB4.out.size) HY.out (by rw [Hyd.out]; exact def_ok _))
 have hvy : y.w = .agg #[.int .i64 y.k, .string y.t.name, .slice y.t.cols.A y.t.cols.n y.t.cols.c, .slice y.t.chks.A y.t.chks.n y.t.chks.c, .string y.v.name, .string y.v.frm, .string y.v.wth, .int .i64 y.v.on0, .int .i64 y.v.on1, .slice (some ⟨g2, o2, none⟩) 2 y.v.whr.c, .slice y.v.pick.A y.v.pick.n y.v.pick.c, .bool true, .slice y.v.aggs.A 2 y.v.aggs.c] := by rw [← hyg, ← hA2]; simp only [Dm.w, n2, n3]
 rw [hvy] at HP
 clear hi hd hb hb34 HE3 HQ4 Hx Hy Hk1 Hk2 Hb12 Hb23 hxc hya hyw hc1 hcell1 hc2 hcell2 hA1 hA2 n1 n2 n3 eo2 hyg hvy hs1
 go_wp2_with fail
 refine HP.out.mono ?_
 rintro e w5 ⟨t, rfl, hp, hl, hb⟩
 obtain ⟨et, -, -⟩ := prt_read (err_zero fx_e2).1 (Nat.le_trans fx_l2 (by decide)) (Hyd.out ▸ hp)
 rw [fx_p] at et
 subst et
 have HB5 : Hid (Below w.heap.size w w5) := Lib.hid (below_via HB4.out hb)
 have HX5 : Hid (x.In w5) := Lib.hid (HX.out.after hb)
 have HKx5 : Hid (BkD w5 w1.heap.size x) := Lib.hid (Bk.after HKx.out hb xl)
 have HM := Lib.hid (dmay_c x w5 ((HG.out.below HB5.out).up HB5.out.size) HX5.out (by rw [Hxd.out]; exact def_ok _))
 clear hp hl hb x0 x1 x2 x3 x4 x5 x6 x7 x8 x9 x10 x11 x12 y0 y1 y2 y3 y4 y5 y6 y7 y8 y9 y10 y11 y12 k0 k1 k2 k3 k4 k5 m0 HP HX HY HKx HKy hW4 xl yl hg1 hg2 HB1 HB2 HB3
 obtain ⟨x0, x1, x2, x3, x4, x5, x6, x7, x8, x9, x10, x11, x12, xl⟩ := HKx5.out.all
 rw [show ba fp2 = (⟨#[118, 105, 101, 119, 32, 118, 32, 102, 114, 111, 109, 32, 116, 32, 119, 104, 101, 114, 101, 32, 91, 32, 99, 48, 32, 110, 117, 108, 108, 32, 63, 32, 93, 32, 112, 105, 99, 107, 32, 49, 32, 103, 114, 111, 117, 112, 32, 99, 111, 117, 110, 116, 32, 44, 32, 115, 117, 109, 32, 48]⟩ : ByteArray) from rfl]
 go_wp2_with fail
 refine HM.out.mono ?_
 rintro e w6 ⟨t, rfl, hp, hl, hb⟩
 have ht := (prt_read (err_zero fx_e1).1 (Nat.le_trans fx_l1 (by decide)) (Hxd.out ▸ hp)).2.1
 rw [decide_eq_true ht]
 have HB6 := Lib.hid (below_via HB5.out hb)
 clear hp hl hb ht x0 x1 x2 x3 x4 x5 x6 x7 x8 x9 x10 x11 x12 xl HM
 go_wp2
 go_ret
 exact ⟨rfl, HB6.out⟩
end
end Go.Proofs.YtjgpmnffagdhlaaGreatDoor
namespace Go.Proofs.YtjgpmnffagdhlaaGreatDoor
open Go Go.RowKit
set_option maxRecDepth 100000
def longN : List Nd → Bool
 | [] => false
 | x :: r => decide ((1000 : Int) < x.v.s.size) || longN r
theorem longN_drop (e : List Nd) (k : Nat) (x : Nd) (h : e[k]? = some x) : longN (e.drop k) = (decide ((1000 : Int) < x.v.s.size) || longN (e.drop (k + 1))) := by
 have hlt : k < e.length := (List.getElem?_eq_some_iff.1 h).1
 have hv : e[k] = x := (List.getElem?_eq_some_iff.1 h).2
 rw [List.drop_eq_getElem_cons hlt, hv, longN]
theorem longN_all : ∀ (e : List Nd), longN e = false → ∀ x ∈ e, x.v.s.size ≤ 1000
 | [], _, x, hx => by cases hx
 | y :: r, h, x, hx => by
   simp only [longN, Bool.or_eq_false_iff, decide_eq_false_iff_not] at h
   rcases List.mem_cons.1 hx with rfl | hx
   · omega
   · exact longN_all r h.2 x hx
def bigN (e : List Nd) : Bool := longN e || decide ((120 : Int) < e.length)
theorem bigN_all {e : List Nd} (h : bigN e = false) : e.length ≤ 120 ∧ ∀ x ∈ e, x.v.s.size ≤ 1000 := by
 unfold bigN at h
 simp only [Bool.or_eq_false_iff, decide_eq_false_iff_not] at h
 exact ⟨by omega, longN_all e h.1⟩
set_option maxHeartbeats 4000000 in
theorem bigN_c (A : Option Addr) (n c : Nat) (e : List Nd) (w : World) (hn : e.length = n) (hmax : n ≤ maxLen) (hs : SlG w A 5 rdN e) (hz : ∀ x ∈ e, x.v.s.size ≤ maxLen) :
 Calls Tryz.prog 29 #[.slice A n c] w fun en w' => en = .returned (.bool (bigN e)) ∧ w' = w := by
 have hm' : n ≤ 9223372036854775807 := hmax
 have Hn := Lib.hid hn
 have Hs := Lib.hid hs
 have Hz := Lib.hid hz
 obtain ⟨R, hR⟩ : ∃ R, bigN e = R := ⟨_, rfl⟩
 rw [hR]
 have HR := Lib.hid hR
 clear hn hs hR hz hmax
 go_enter Tryz.func29, Tryz.ntmps29
 go_wp2_with fail
 go_loopw [3] (fun i wr => ∃ k : Nat, k ≤ n ∧ i = .int .i64 k ∧ wr = w ∧ Hid (longN (e.drop k) = longN e)) (fun i _ => n - (intOf i).toNat)
 case atStart => exact ⟨0, Nat.zero_le _, rfl, rfl, rfl⟩
 case round =>
  obtain ⟨k, hk, rfl, rfl, hinv⟩ := hrel
  by_cases hlt' : k < n
  · obtain ⟨b, off, x, rfl, hlt, hx, hc⟩ := Hs.out.atS (by rw [Hn.out]; exact hlt')
    have c4 := hc 4 _ rfl
    have hsz := Hz.out x (List.mem_of_getElem? hx)
    have hsz' : x.v.s.size ≤ 9223372036854775807 := hsz
    have hstep := longN_drop e k x hx
    rw [hinv.out] at hstep
    clear hc hx hinv hsz
    cases hd : decide ((1000 : Int) < x.v.s.size)
    · rw [hd] at hstep
      have Hst := Lib.hid hstep
      clear hstep
      go_wp2
      go_roundw
      case rel => exact ⟨k + 1, by omega, by go_num, trivial, Lib.hid (by have := Hst.out; simpa using this.symm)⟩
      case measure => simp [intOf]; omega
    · rw [hd] at hstep
      have hRt : R = true := by rw [← HR.out]; unfold bigN; rw [hstep]; rfl
      subst hRt
      clear hstep
      go_wp2
      go_ret
      exact ⟨rfl, rfl⟩
  · have hkn : k = n := by omega
    have hstep := hinv.out
    rw [List.drop_eq_nil_of_le (by rw [Hn.out]; omega)] at hstep
    have hRt : R = decide ((120 : Int) < n) := by rw [← HR.out]; unfold bigN; rw [← hstep, Hn.out]; rfl
    subst hRt
    clear hstep hinv
    go_wp2
    go_ret
    exact ⟨rfl, rfl⟩
attribute [local go_sem ↓] Go.wp_at_zero Go.wp_at_succ
structure Dm.Tx (x : Dm) : Prop where
 cols : ∀ c ∈ x.t.cols.xs, c.name.size ≤ maxLen ∧ c.ref.size ≤ maxLen
 chks : ∀ e ∈ x.t.chks.xs, ∀ y ∈ e.xs, y.v.s.size ≤ maxLen
 whr : ∀ y ∈ x.v.whr.xs, y.v.s.size ≤ maxLen
 n1 : x.t.name.size ≤ maxLen
 n2 : x.v.name.size ≤ maxLen
 n3 : x.v.frm.size ≤ maxLen
 n4 : x.v.wth.size ≤ maxLen
def Dm.z0 (x : Dm) : Int := wrap64 (wrap64 (wrap64 (wrap64 (x.t.cols.n + x.t.chks.n) + x.v.pick.n) + x.v.aggs.n) + x.v.whr.n)
def stepZ (z : Int) (e : Sx Nd) : Int := wrap64 (z + e.n)
def Dm.parts (x : Dm) : Int := x.t.chks.xs.foldl stepZ x.z0
theorem fold_take {xs : List (Sx Nd)} {k : Nat} {e : Sx Nd} (z : Int) (h : xs[k]? = some e) : (xs.take (k + 1)).foldl stepZ z = stepZ ((xs.take k).foldl stepZ z) e := by
 rw [List.take_add_one, h, List.foldl_append]
 rfl
structure Dm.Sm (x : Dm) : Prop where
 cols : ∀ c ∈ x.t.cols.xs, c.name.size ≤ 100 ∧ c.ref.size ≤ 100
 chks : ∀ e ∈ x.t.chks.xs, bigN e.xs = false
 whr : bigN x.v.whr.xs = false
 n1 : x.t.name.size ≤ 100
 n2 : x.v.name.size ≤ 100
 n3 : x.v.frm.size ≤ 100
 n4 : x.v.wth.size ≤ 100
 parts : x.parts ≤ 400
def BigSaid (x : Dm) (e : Ending) : Prop := ∃ b, e = .returned (.bool b) ∧ (b = false → x.Sm)
theorem take_all {α : Type} {p : α → Prop} {xs : List α} {k : Nat} {x : α} (h : ∀ y ∈ xs.take k, p y) (hx : xs[k]? = some x) (hp : p x) : ∀ y ∈ xs.take (k + 1), p y := by
 rw [List.take_add_one, hx]
 intro y hy
 rcases List.mem_append.1 hy with hy | hy
 · exact h y hy
 · simp at hy; rw [hy]; exact hp
set_option maxHeartbeats 4000000 in
theorem bigD_c (x : Dm) (w : World) (hx : x.In w) (hz : x.Tx) :
 Calls Tryz.prog 12 #[x.w] w fun e w' => BigSaid x e ∧ Below w.heap.size w w' := by
 have Hbx : Hid (Bd (w.alloc (.cells x.cells 34)) w.heap.size x) := alloc_at w _ _
 have Hb0 : Hid (Below w.heap.size w (w.alloc (.cells x.cells 34))) := Lib.hid (below_one w _)
 have hW2 : w.heap.size < (w.alloc (.cells x.cells 34)).heap.size := by simp
 have Hx := Lib.hid hx
 have Hz := Lib.hid hz
 obtain ⟨P, hP⟩ : ∃ P, BigSaid x = P := ⟨_, rfl⟩
 rw [hP]
 have HP := Lib.hid hP
 have hl1 := hx.t.cols.max
 have hl2 := hx.t.chks.max
 have hl3 := hx.v.whr.max
 have hl4 := hx.v.pick.max
 have hl5 := hx.v.aggs.max
 unfold maxLen at hl1 hl2 hl3 hl4 hl5
 clear hP hx hz
 obtain ⟨W, hW⟩ : ∃ W, (w.alloc (.cells x.cells 34)) = W := ⟨_, rfl⟩
 have HWe : Hid ((w.alloc (.cells #[.int .i64 x.k, .string x.t.name, .slice x.t.cols.A x.t.cols.n x.t.cols.c, .slice x.t.chks.A x.t.chks.n x.t.chks.c, .string x.v.name, .string x.v.frm, .string x.v.wth, .int .i64 x.v.on0, .int .i64 x.v.on1, .slice x.v.whr.A x.v.whr.n x.v.whr.c, .slice x.v.pick.A x.v.pick.n x.v.pick.c, .bool x.v.grp, .slice x.v.aggs.A x.v.aggs.n x.v.aggs.c] 34)) = W) := hW
 rw [hW] at Hbx Hb0 hW2
 clear hW
 have HX := Lib.hid (fun w' (hb : Below W.heap.size W w') => Bd.after Hbx.out hW2 hb)
 clear Hbx
 go_enter Tryz.func12, Tryz.ntmps12
 go_wp2_with fail
 rw [HWe.out]
 go_loopw [3, 4] (fun q i wr => ∃ (k : Nat) (z : Int), k ≤ x.t.chks.n ∧ q = .int .i64 z ∧ i = .int .i64 k ∧ Hid (Below W.heap.size W wr) ∧ Hid (∀ e ∈ x.t.chks.xs.take k, bigN e.xs = false) ∧ Hid (z = (x.t.chks.xs.take k).foldl stepZ x.z0)) (fun _ i _ => x.t.chks.n - (intOf i).toNat)
 case atStart => exact ⟨0, _, Nat.zero_le _, rfl, rfl, Below.refl _ _, by intro e he; simp at he, Lib.hid (by rw [List.take_zero, List.foldl_nil, Dm.z0])⟩
 case round =>
  obtain ⟨k, z, hk, rfl, rfl, hb, hinv, hpt⟩ := hrel
  obtain ⟨hvx, hlx⟩ := HX.out _ hb.out
  obtain ⟨x0, x1, x2, x3, x4, x5, x6, x7, x8, x9, x10, x11, x12⟩ := hvx.all
  have Hbw := Lib.hid (below_via Hb0.out hb.out)
  by_cases hlt : k < x.t.chks.n
  · obtain ⟨b, off, e, hA, hblt, he, hc⟩ := Hx.out.t.chks.sl.atS (by rw [Hx.out.t.chks.len]; exact hlt)
    have d0 := (Hbw.out.cell (p := ⟨b, off + k, none⟩) hblt).trans (by have := hc 0 _ rfl; simpa using this)
    have l1 : b < wr.heap.size := Nat.lt_of_lt_of_le hblt Hbw.out.size
    rw [hA] at x3
    have Hein := Lib.hid ((Hx.out.t.each e (List.mem_of_getElem? he)).after Hbw.out)
    have Hez := Lib.hid (Hz.out.chks e (List.mem_of_getElem? he))
    have Hst := Lib.hid (fun h : bigN e.xs = false => take_all (p := fun e : Sx Nd => bigN e.xs = false) hinv.out he h)
    have hel : e.n ≤ 2 ^ 63 - 1 := Hein.out.max
    have Hpt : Hid (wrap64 (z + e.n) = (x.t.chks.xs.take (k + 1)).foldl stepZ x.z0) := Lib.hid (by rw [fold_take _ he, ← hpt.out, stepZ])
    clear hpt
    have HBC := Lib.hid (bigN_c e.A e.n e.c e.xs wr Hein.out.len Hein.out.max Hein.out.sl Hez.out)
    obtain ⟨Z, hZ⟩ : ∃ Z, bigN e.xs = Z := ⟨_, rfl⟩
    rw [hZ] at HBC Hst
    clear hinv hc he hblt hA hZ Hein Hez hvx x0 x1 x2 x4 x5 x6 x7 x8 x9 x10 x11 x12
    go_wp2_with fail
    refine HBC.out.mono ?_
    rintro e' w1 ⟨rfl, rfl⟩
    clear HBC x3 d0
    cases Z
    · have Hs2 := Lib.hid (Hst.out rfl)
      clear Hst
      go_wp2
      go_roundw
      case rel => exact ⟨k + 1, _, by omega, rfl, by go_num, hb, Hs2, Hpt⟩
      case measure => simp [intOf]; omega
    · clear Hst
      go_wp2
      go_ret
      exact ⟨by rw [← HP.out]; exact ⟨true, rfl, by simp⟩, Hbw.out⟩
  · obtain rfl : k = x.t.chks.n := by omega
    have Hck : Hid (∀ e ∈ x.t.chks.xs, bigN e.xs = false) := Lib.hid (by have := hinv.out; rwa [List.take_of_length_le (by rw [Hx.out.t.chks.len]; exact Nat.le_refl _)] at this)
    have Hpt : Hid (z = x.parts) := Lib.hid (by have := hpt.out; rwa [List.take_of_length_le (by rw [Hx.out.t.chks.len]; exact Nat.le_refl _)] at this)
    clear hpt hinv hvx x0 x1 x2 x4 x5 x6 x7 x8 x9 x10 x11 x12
    have HbW := hb
    obtain ⟨W1, hW1⟩ : ∃ W1, W1 = wr := ⟨_, rfl⟩
    go_wp2_with fail
    go_loopw [5] (fun i wr => ∃ k : Nat, k ≤ x.t.cols.n ∧ i = .int .i64 k ∧ Hid (Below W.heap.size W wr) ∧ Hid (∀ c ∈ x.t.cols.xs.take k, c.name.size ≤ 100 ∧ c.ref.size ≤ 100)) (fun i _ => x.t.cols.n - (intOf i).toNat)
    case atStart => exact ⟨0, Nat.zero_le _, rfl, HbW, by intro e he; simp at he⟩
    case round =>
     clear hW1 Hbw HbW hb x3 hlx
     obtain ⟨q, hq, rfl, hb, hinv⟩ := hrel
     obtain ⟨hvx, hlx⟩ := HX.out _ hb.out
     obtain ⟨x0, x1, x2, x3, x4, x5, x6, x7, x8, x9, x10, x11, x12⟩ := hvx.all
     have Hbw := Lib.hid (below_via Hb0.out hb.out)
     by_cases hlt2 : q < x.t.cols.n
     · obtain ⟨b, off, c, hA, hblt, he, hc⟩ := Hx.out.t.cols.sl.atS (by rw [Hx.out.t.cols.len]; exact hlt2)
       have d0 := (Hbw.out.cell (p := ⟨b, off + q * 6, none⟩) hblt).trans (by have := hc 0 _ rfl; simpa using this)
       have d4 := (Hbw.out.cell (p := ⟨b, off + q * 6 + 4, none⟩) hblt).trans (hc 4 _ rfl)
       have l1 : b < wr.heap.size := Nat.lt_of_lt_of_le hblt Hbw.out.size
       rw [hA] at x2
       have hz1 : c.name.size ≤ 9223372036854775807 := (Hz.out.cols c (List.mem_of_getElem? he)).1
       have hz2 : c.ref.size ≤ 9223372036854775807 := (Hz.out.cols c (List.mem_of_getElem? he)).2
       have Hst := Lib.hid (fun h : c.name.size ≤ 100 ∧ c.ref.size ≤ 100 => take_all (p := fun c : Cl => c.name.size ≤ 100 ∧ c.ref.size ≤ 100) hinv.out he h)
       have Hb2 := Lib.hid hb.out
       have Hbw2 := Lib.hid Hbw.out
       clear hinv hc he hblt hA hvx x0 x1 x3 x4 x5 x6 x7 x8 x9 x10 x11 x12
       cases h1 : decide ((100 : Int) < c.name.size)
       · cases h2 : decide ((100 : Int) < c.ref.size)
         · have Hs2 := Lib.hid (Hst.out ⟨by simp at h1; omega, by simp at h2; omega⟩)
           clear Hst
           go_wp2
           go_roundw
           case rel => exact ⟨q + 1, by omega, by go_num, Hb2, Hs2⟩
           case measure => simp [intOf]; omega
         · clear Hst
           go_wp2
           go_ret
           exact ⟨by rw [← HP.out]; exact ⟨true, rfl, by simp⟩, Hbw2.out⟩
       · clear Hst
         go_wp2
         go_ret
         exact ⟨by rw [← HP.out]; exact ⟨true, rfl, by simp⟩, Hbw2.out⟩
     · obtain rfl : q = x.t.cols.n := by omega
       have Hcc : Hid (∀ c ∈ x.t.cols.xs, c.name.size ≤ 100 ∧ c.ref.size ≤ 100) := Lib.hid (by have := hinv.out; rwa [List.take_of_length_le (by rw [Hx.out.t.cols.len]; exact Nat.le_refl _)] at this)
       have z1 : x.t.name.size ≤ 9223372036854775807 := Hz.out.n1
       have z2 : x.v.name.size ≤ 9223372036854775807 := Hz.out.n2
       have z3 : x.v.frm.size ≤ 9223372036854775807 := Hz.out.n3
       have z4 : x.v.wth.size ≤ 9223372036854775807 := Hz.out.n4
       have HBW := Lib.hid (fun w' (h : Below w.heap.size w w') => bigN_c x.v.whr.A x.v.whr.n x.v.whr.c x.v.whr.xs w' Hx.out.v.whr.len Hx.out.v.whr.max (Hx.out.v.whr.sl.after h) Hz.out.whr)
       have Hbw2 := Lib.hid Hbw.out
       clear hinv hvx
       by_cases hz0 : (400 : Int) < z
       · clear HBW
         go_wp2
         go_ret
         exact ⟨by rw [← HP.out]; exact ⟨true, rfl, by simp⟩, Hbw2.out⟩
       have HBX := Lib.hid (HBW.out wr Hbw.out)
       clear HBW
       obtain ⟨Z, hZ⟩ : ∃ Z, bigN x.v.whr.xs = Z := ⟨_, rfl⟩
       have HZ := Lib.hid hZ
       rw [hZ] at HBX
       clear hZ
       go_wp2_with fail
       refine HBX.out.mono ?_
       rintro e' w1 ⟨rfl, rfl⟩
       clear HBX
       cases Z
       case true =>
        clear HZ
        go_wp2
        go_ret
        exact ⟨by rw [← HP.out]; exact ⟨true, rfl, by simp⟩, Hbw2.out⟩
       by_cases m1 : (100 : Int) < x.t.name.size
       case pos =>
        clear HZ
        go_wp2
        go_ret
        exact ⟨by rw [← HP.out]; exact ⟨true, rfl, by simp⟩, Hbw2.out⟩
       by_cases m2 : (100 : Int) < x.v.name.size
       case pos =>
        clear HZ
        go_wp2
        go_ret
        exact ⟨by rw [← HP.out]; exact ⟨true, rfl, by simp⟩, Hbw2.out⟩
       by_cases m3 : (100 : Int) < x.v.frm.size
       case pos =>
        clear HZ
        go_wp2
        go_ret
        exact ⟨by rw [← HP.out]; exact ⟨true, rfl, by simp⟩, Hbw2.out⟩
       by_cases m4 : (100 : Int) < x.v.wth.size
       case pos =>
        clear HZ
        go_wp2
        go_ret
        exact ⟨by rw [← HP.out]; exact ⟨true, rfl, by simp⟩, Hbw2.out⟩
       go_wp2
       go_ret
       exact ⟨by rw [← HP.out]; exact ⟨_, rfl, fun _ => ⟨Hcc.out, Hck.out, HZ.out, by omega, by omega, by omega, by omega, by rw [← Hpt.out]; omega⟩⟩, Hbw2.out⟩
end Go.Proofs.YtjgpmnffagdhlaaGreatDoor
namespace Go.Proofs.YtjgpmnffagdhlaaGreatDoor
open Go Go.RowKit
set_option maxRecDepth 100000
def Nd.Z (x : Nd) : Prop := I64 x.n ∧ I64 x.v.n
structure Dm.Z (x : Dm) : Prop where
 chks : ∀ e ∈ x.t.chks.xs, ∀ y ∈ e.xs, y.Z
 whr : ∀ y ∈ x.v.whr.xs, y.Z
 on0 : I64 x.v.on0
 on1 : I64 x.v.on1
 pick : ∀ n ∈ x.v.pick.xs, I64 n
 aggs : ∀ a ∈ x.v.aggs.xs, I64 a.col
theorem sm_ok {x : Dm} (h : x.Sm) (z : x.Z) : DfOk x.df := by
 refine ⟨⟨?_, fun c hc => ?_, fun e he y hy => ?_⟩, ⟨?_, ?_, ?_, z.on0, z.on1, fun y hy => ?_, z.pick, z.aggs⟩⟩
 · have := h.n1; show x.t.name.size ≤ _; omega
 · have := h.cols c hc; omega
 · obtain ⟨s, hs, rfl⟩ := List.mem_map.1 (show e ∈ x.t.chks.xs.map (·.xs) from he)
   have := (bigN_all (h.chks s hs)).2 y hy
   exact ⟨(z.chks s hs y hy).1, (z.chks s hs y hy).2, by omega⟩
 · have := h.n2; show x.v.name.size ≤ _; omega
 · have := h.n3; show x.v.frm.size ≤ _; omega
 · have := h.n4; show x.v.wth.size ≤ _; omega
 · have := (bigN_all h.whr).2 y hy
   exact ⟨(z.whr y hy).1, (z.whr y hy).2, by omega⟩
end Go.Proofs.YtjgpmnffagdhlaaGreatDoor
