/-
  No value's bytes begin with another one's, and a list's bytes begin with those of its first so many: the law KeyApart, walked.
-/
import Derived.Test.YtkbgcgkblbbcbaaDoorRisesW
import Derived.Lib.Strings
namespace Go.Proofs.YtkbgcgkblbbcbaaDoor
open Go Go.RowKit

theorem enEncode : ∀ args w, (callFunc 12 args).run Tryd.prog w = .ok (.enter 12 args) w := fun _ _ => by kernel_rfl
theorem ev_build1 {F : Act} {w : World} {t : Tmp} {o : Oper} (x : Val) (ho : o.op = .buildSlice 22 1 #[(0, .tmp t)]) (ht : Reg.slot F t = x.v) :
    (execOp F.eval o).run Tryd.prog w = .ok (.value (.slice (some ⟨w.heap.size, 0, none⟩) 1 1)) (w.alloc (.cells #[.int .i64 x.k, .int .i64 x.n, .string x.s] 32)) := by
  have e1 : F.eval (.tmp t) = x.v := ht
  have e0 : (execOp F.eval o).run Tryd.prog w = ((Instr.buildSlice 22 1 #[(0, x.v)]).run Tryd.prog w).andThen fun v w' => .ok (.value v) w' := by
    simp only [execOp, ho, List.map_toArray, List.map_cons, List.map_nil, e1, Sem.run_bind, Sem.run_pure]
  rw [e0]
  go_simp
theorem ev_sliceTo {F : Act} {w : World} {t u : Tmp} {A : Option Addr} {n c k : Nat} {o : Oper} (ho : o.op = .slice 22 (.tmp t) none (some (.tmp u)) none) (ht : Reg.slot F t = .slice A n c) (hu : Reg.slot F u = .int .i64 k) (hk : k ≤ c) :
    (execOp F.eval o).run Tryd.prog w = .ok (.value (.slice A k c)) w := by
  have e1 : F.eval (.tmp t) = .slice A n c := ht
  have e2 : F.eval (.tmp u) = .int .i64 k := hu
  have e0 : (execOp F.eval o).run Tryd.prog w = ((Instr.sliceAt 22 (.slice A n c) none (some (.int .i64 k)) none).run Tryd.prog w).andThen fun v w' => .ok (.value v) w' := by
    simp only [execOp, ho, e1, e2, Option.map_some, Option.map_none, Sem.run_bind, Sem.run_pure]
  rw [e0]
  go_simp
theorem ev_lenS {F : Act} {w : World} {t : Tmp} {s : ByteArray} {o : Oper} (ho : o.op = .call { callee := .builtin .len, args := #[.tmp t], argTypes := #[9] }) (ht : Reg.slot F t = .string s) (_hs : s.size ≤ 1000000) :
    (execOp F.eval o).run Tryd.prog w = .ok (.value (.int .i64 s.size)) w := by
  have e1 : F.eval (.tmp t) = .string s := ht
  simp only [execOp, ho, resolve, invoke, builtin, List.map_toArray, List.map_cons, List.map_nil, e1]
  go_simp
theorem ev_leqI {F : Act} {w : World} {t u : Tmp} {a b : Nat} {o : Oper} (ho : o.op = .binOp .leq 3 (.tmp t) (.tmp u) 3) (ht : Reg.slot F t = .int .i64 a) (hu : Reg.slot F u = .int .i64 b) :
    (execOp F.eval o).run Tryd.prog w = .ok (.value (.bool (decide (a ≤ b)))) w := by
  have e1 : F.eval (.tmp t) = .int .i64 a := ht
  have e2 : F.eval (.tmp u) = .int .i64 b := hu
  simp only [execOp, ho, e1, e2]
  go_simp
theorem ev_sliceToS {F : Act} {w : World} {t u : Tmp} {s : ByteArray} {k : Nat} {o : Oper} (ho : o.op = .slice 9 (.tmp t) none (some (.tmp u)) none) (ht : Reg.slot F t = .string s) (hu : Reg.slot F u = .int .i64 k) (hk : k ≤ s.size) :
    (execOp F.eval o).run Tryd.prog w = .ok (.value (.string (s.extract 0 k))) w := by
  have e1 : F.eval (.tmp t) = .string s := ht
  have e2 : F.eval (.tmp u) = .int .i64 k := hu
  have e0 : (execOp F.eval o).run Tryd.prog w = ((Instr.sliceAt 9 (.string s) none (some (.int .i64 k)) none).run Tryd.prog w).andThen fun v w' => .ok (.value v) w' := by
    simp only [execOp, ho, e1, e2, Option.map_some, Option.map_none, Sem.run_bind, Sem.run_pure]
  rw [e0]
  go_simp
theorem ev_eqS2 {F : Act} {w : World} {t u : Tmp} {o : Oper} (l r : ByteArray) (ho : o.op = .binOp .eql 9 (.tmp t) (.tmp u) 9) (ht : Reg.slot F t = .string l) (hu : Reg.slot F u = .string r) :
    (execOp F.eval o).run Tryd.prog w = .ok (.value (.bool (l.toList == r.toList))) w := by
  have e1 : F.eval (.tmp t) = .string l := ht
  have e2 : F.eval (.tmp u) = .string r := hu
  simp only [execOp, ho, e1, e2]
  go_simp
theorem ev_neB {F : Act} {w : World} {t u : Tmp} {o : Oper} (a b : Bool) (ho : o.op = .binOp .neq 4 (.tmp t) (.tmp u) 4) (ht : Reg.slot F t = .bool a) (hu : Reg.slot F u = .bool b) :
    (execOp F.eval o).run Tryd.prog w = .ok (.value (.bool (a != b))) w := by
  have e1 : F.eval (.tmp t) = .bool a := ht
  have e2 : F.eval (.tmp u) = .bool b := hu
  simp only [execOp, ho, e1, e2]
  go_simp
  cases a <;> cases b <;> rfl
/-- Slices of one value are made (operations i1, i2). -/
def slQ (i1 i2 : Nat) (x y : Val) (i : Nat) (vs : List Value) (w : World) : Prop :=
  if i = i1 then ∃ b, vs = [.slice (some ⟨b, 0, none⟩) 1 1] ∧ Sl w (some ⟨b, 0, none⟩) [x] else if i = i2 then ∃ b, vs = [.slice (some ⟨b, 0, none⟩) 1 1] ∧ Sl w (some ⟨b, 0, none⟩) [y] else True
theorem slQ_stab (i1 i2 : Nat) (x y : Val) : ∀ j vs w w', Below w.heap.size w w' → slQ i1 i2 x y j vs w → slQ i1 i2 x y j vs w' := by
  intro j vs w w' hb h
  unfold slQ at *
  split
  · rename_i e
    rw [if_pos e] at h
    obtain ⟨b, hv, hs⟩ := h
    exact ⟨b, hv, hs.after hb⟩
  · rename_i e
    rw [if_neg e] at h
    split
    · rename_i e2
      rw [if_pos e2] at h
      obtain ⟨b, hv, hs⟩ := h
      exact ⟨b, hv, hs.after hb⟩
    · trivial
theorem take_front (l r : List UInt8) : (l ++ r).take l.length = l := List.take_left' rfl
theorem ext0 (s : ByteArray) (k : Nat) : (s.extract 0 k).toList = s.data.toList.take k := by
  rw [Lib.extract_eq, ByteArray.toList_eq]
  simp
theorem size_mk (l : List UInt8) : (⟨l.toArray⟩ : ByteArray).size = l.length := by simp [ByteArray.size]
theorem enc_one {x : Val} (h : Good [x]) : encode [x] = enc1 x := by
  rw [encode_good h]
  show enc1 x ++ [] = _
  rw [List.append_nil]
theorem apart_ways (ls : List Val) (x y : Val) (k : Nat) (hl : Good ls) (hx : Good [x]) (hy : Good [y]) : ∃ (ex ey el ek : ByteArray) (q : Bool), ex = ⟨(encode [x]).toArray⟩ ∧ ey = ⟨(encode [y]).toArray⟩ ∧ el = ⟨(encode ls).toArray⟩ ∧ ek = ⟨(encode (ls.take k)).toArray⟩ ∧
    (ex.size ≤ ey.size → ((ey.extract 0 ex.size).toList == ex.toList) = q ∧ x.eq y = q) ∧ ek.size ≤ el.size ∧ ((el.extract 0 ek.size).toList == ek.toList) = true := by
  refine ⟨_, _, _, _, x.eq y, rfl, rfl, rfl, rfl, fun hle => ⟨?_, rfl⟩, ?_, ?_⟩
  · rw [ext0, ByteArray.toList_eq, enc_one hx, enc_one hy]
    rw [enc_one hx, enc_one hy, size_mk, size_mk] at hle
    rw [size_mk]
    show ((enc1 y).take (enc1 x).length == enc1 x) = x.eq y
    by_cases he : x = y
    · subst he
      rw [Val.eq_self, List.take_length]
      simp
    · rw [Val.eq_false he]
      cases hq : (enc1 y).take (enc1 x).length == enc1 x
      · rfl
      · exfalso
        have h1 : (enc1 y).take (enc1 x).length = enc1 x := by simpa using hq
        have h2 : enc1 y = enc1 x ++ (enc1 y).drop (enc1 x).length := by
          have := List.take_append_drop (enc1 x).length (enc1 y)
          rw [h1] at this
          exact this.symm
        have c1 := cut1_enc x (hx x (by simp)).1 (hx x (by simp)).2 ((enc1 y).drop (enc1 x).length)
        have c2 := cut1_enc y (hy y (by simp)).1 (hy y (by simp)).2 []
        rw [List.append_nil, h2, c1] at c2
        simp at c2
        exact he c2.1
  · have hk : Good (ls.take k) := fun z hz => hl z (List.mem_of_mem_take hz)
    rw [encode_good hl, encode_good hk, size_mk, size_mk]
    have h1 : encL ls = encL (ls.take k) ++ encL (ls.drop k) := by rw [← encL_append, List.take_append_drop]
    rw [h1, List.length_append]
    omega
  · have hk : Good (ls.take k) := fun z hz => hl z (List.mem_of_mem_take hz)
    rw [ext0, ByteArray.toList_eq, encode_good hl, encode_good hk, size_mk]
    show ((encL ls).take (encL (ls.take k)).length == encL (ls.take k)) = true
    have h1 : encL ls = encL (ls.take k) ++ encL (ls.drop k) := by rw [← encL_append, List.take_append_drop]
    rw [h1, take_front]
    simp
theorem enc_smallL (ls : List Val) (hz : ∀ x ∈ ls, x.s.size ≤ 1000) (hl : ls.length ≤ 40) : (⟨(encode ls).toArray⟩ : ByteArray).size ≤ 1000000 := by
  have h := encL_length ls hz
  rw [size_mk]
  unfold encode
  split
  · omega
  · simp
theorem enc_small (x : Val) (h : ∀ z ∈ [x], z.s.size ≤ 1000) : (⟨(encode [x]).toArray⟩ : ByteArray).size ≤ 1000000 := enc_smallL [x] h (by simp)
theorem size_alloc (w : World) (o : Obj) : (w.alloc o).heap.size = w.heap.size + 1 := by simp

set_option maxRecDepth 100000 in
set_option maxHeartbeats 8000000 in
theorem apart_c (A : Option Addr) (n c : Nat) (ls : List Val) (x y : Val) (k m : Int) (w : World) (hn : ls.length = n) (hn1 : n ≤ maxLen) (hnc : n ≤ c) (hl : Sl w A ls) (zl : ∀ x ∈ ls, x.s.size ≤ maxLen) (il : ∀ x ∈ ls, In64 x) (zx : x.s.size ≤ maxLen) (zy : y.s.size ≤ maxLen) (ix : In64 x) (iy : In64 y) (hm : Mx w m) :
    Calls Tryd.prog 6 #[.slice A n c, .agg #[.int .i64 x.k, .int .i64 x.n, .string x.s, .int .i64 y.k, .int .i64 y.n, .string y.s], .int .i64 k] w fun e w' => e = .returned (.bool true) ∧ Below w.heap.size w w' := by
  have Hn := Lib.hid hn
  have Zl := Lib.hid zl
  have Il := Lib.hid il
  have Zx := Lib.hid zx
  have Zy := Lib.hid zy
  have Ix := Lib.hid ix
  have Iy := Lib.hid iy
  have Hl' := Lib.hid hl
  have Hm' := Lib.hid hm
  clear hn zl il zx zy ix iy hl hm
  unfold maxLen at hn1
  go_enter Tryd.func6, Tryd.ntmps6
  go_wp2_with fail
  go_region
  · have b1 : Bx (((w.alloc (.cells #[.int .i64 x.k, .int .i64 x.n, .string x.s, .int .i64 y.k, .int .i64 y.n, .string y.s] 33)).alloc (.cells #[.int .i64 x.k, .int .i64 x.n, .string x.s] 32)).alloc (.cells #[.int .i64 y.k, .int .i64 y.n, .string y.s] 32)).drew (w.heap.size + 1) x := by
      have h := (Bx.new (w.alloc (.cells #[.int .i64 x.k, .int .i64 x.n, .string x.s, .int .i64 y.k, .int .i64 y.n, .string y.s] 33)) x).alloc (.cells #[.int .i64 y.k, .int .i64 y.n, .string y.s] 32)
      rw [size_alloc] at h
      exact h
    have b2 : Bx (((w.alloc (.cells #[.int .i64 x.k, .int .i64 x.n, .string x.s, .int .i64 y.k, .int .i64 y.n, .string y.s] 33)).alloc (.cells #[.int .i64 x.k, .int .i64 x.n, .string x.s] 32)).alloc (.cells #[.int .i64 y.k, .int .i64 y.n, .string y.s] 32)).drew (w.heap.size + 1 + 1) y := by
      have h := Bx.new1 (w.alloc (.cells #[.int .i64 x.k, .int .i64 x.n, .string x.s, .int .i64 y.k, .int .i64 y.n, .string y.s] 33)) y (.cells #[.int .i64 x.k, .int .i64 x.n, .string x.s] 32)
      rw [size_alloc] at h
      exact h
    have hb1 : Below w.heap.size w (((w.alloc (.cells #[.int .i64 x.k, .int .i64 x.n, .string x.s, .int .i64 y.k, .int .i64 y.n, .string y.s] 33)).alloc (.cells #[.int .i64 x.k, .int .i64 x.n, .string x.s] 32)).alloc (.cells #[.int .i64 y.k, .int .i64 y.n, .string y.s] 32)).drew := by
      have h := ((below_one w (.cells #[.int .i64 x.k, .int .i64 x.n, .string x.s, .int .i64 y.k, .int .i64 y.n, .string y.s] 33)).alloc (by simp) (.cells #[.int .i64 x.k, .int .i64 x.n, .string x.s] 32)).alloc (by simp; omega) (.cells #[.int .i64 y.k, .int .i64 y.n, .string y.s] 32)
      exact ⟨h.os, h.tape, h.output, h.size, h.block⟩
    generalize (((w.alloc (.cells #[.int .i64 x.k, .int .i64 x.n, .string x.s, .int .i64 y.k, .int .i64 y.n, .string y.s] 33)).alloc (.cells #[.int .i64 x.k, .int .i64 x.n, .string x.s] 32)).alloc (.cells #[.int .i64 y.k, .int .i64 y.n, .string y.s] 32)).drew = w1 at b1 b2 hb1 ⊢
    generalize w.heap.size + 1 + 1 = b8 at b2 ⊢
    generalize w.heap.size + 1 = b7 at b1 ⊢
    have Hl1 : Hid (Sl w1 A ls) := Hl'.out.after hb1
    have Hm1 : Hid (Mx w1 m) := Hm'.out.after hb1
    have Ba1 : Hid (Bx w1 b7 x) := b1
    have Bb1 : Hid (Bx w1 b8 y) := b2
    clear b1 b2 Hl' Hm'
    go_wp2_with fail
    refine (fixed_c m w1 Hm1.out).mono ?_
    rintro e w2 ⟨rfl, hc⟩
    have Hl2 : Hid (Sl w2 A ls) := Hl1.out.after hc
    have Hm2 : Hid (Mx w2 m) := Hm1.out.after hc
    have Ba2 : Hid (Bx w2 b7 x) := Ba1.out.after hc
    have Bb2 : Hid (Bx w2 b8 y) := Bb1.out.after hc
    have hb2 := hb1.trans (hc.mono hb1.size)
    clear hc hb1 Hl1 Hm1 Ba1 Bb1
    cases g1 : shortB ls
    · go_wp2_with fail
      refine (short_c A n c ls w2 Hn.out (by unfold maxLen; omega) Hl2.out Zl.out).mono ?_
      rintro e w3 ⟨rfl, hc⟩
      rw [g1]
      have Hl3 : Hid (Sl w3 A ls) := Hl2.out.after hc
      have Hm3 : Hid (Mx w3 m) := Hm2.out.after hc
      have Ba3 : Hid (Bx w3 b7 x) := Ba2.out.after hc
      have Bb3 : Hid (Bx w3 b8 y) := Bb2.out.after hc
      have hb3 := hb2.trans (hc.mono hb2.size)
      clear hc hb2 Hl2 Hm2 Ba2 Bb2
      go_wp2_with fail
      refine (fixed_c m w3 Hm3.out).mono ?_
      rintro e w4 ⟨rfl, hc⟩
      have Hl4 : Hid (Sl w4 A ls) := Hl3.out.after hc
      have Hm4 : Hid (Mx w4 m) := Hm3.out.after hc
      have Ba4 : Hid (Bx w4 b7 x) := Ba3.out.after hc
      have Bb4 : Hid (Bx w4 b8 y) := Bb3.out.after hc
      have hb4 := hb3.trans (hc.mono hb3.size)
      clear hc hb3 Hl3 Hm3 Ba3 Bb3
      go_wp2
      go_ret
      exact ⟨rfl, hb4⟩
    · go_wp2_with fail
      refine (short_c A n c ls w2 Hn.out (by unfold maxLen; omega) Hl2.out Zl.out).mono ?_
      rintro e w3 ⟨rfl, hc⟩
      rw [g1]
      have Hl3 : Hid (Sl w3 A ls) := Hl2.out.after hc
      have Hm3 : Hid (Mx w3 m) := Hm2.out.after hc
      have Ba3 : Hid (Bx w3 b7 x) := Ba2.out.after hc
      have Bb3 : Hid (Bx w3 b8 y) := Bb2.out.after hc
      have hb3 := hb2.trans (hc.mono hb2.size)
      clear hc hb2 Hl2 Hm2 Ba2 Bb2
      cases g2 : ls.all rmB
      · go_wp2_with fail
        refine (rmayL_c A n c ls w3 Hn.out (by unfold maxLen; omega) Hl3.out Zl.out).mono ?_
        rintro e w4 ⟨rfl, hc⟩
        rw [g2]
        have Hl4 : Hid (Sl w4 A ls) := Hl3.out.after hc
        have Hm4 : Hid (Mx w4 m) := Hm3.out.after hc
        have Ba4 : Hid (Bx w4 b7 x) := Ba3.out.after hc
        have Bb4 : Hid (Bx w4 b8 y) := Bb3.out.after hc
        have hb4 := hb3.trans (hc.mono hb3.size)
        clear hc hb3 Hl3 Hm3 Ba3 Bb3
        go_wp2_with fail
        refine (fixed_c m w4 Hm4.out).mono ?_
        rintro e w5 ⟨rfl, hc⟩
        have Hl5 : Hid (Sl w5 A ls) := Hl4.out.after hc
        have Hm5 : Hid (Mx w5 m) := Hm4.out.after hc
        have Ba5 : Hid (Bx w5 b7 x) := Ba4.out.after hc
        have Bb5 : Hid (Bx w5 b8 y) := Bb4.out.after hc
        have hb5 := hb4.trans (hc.mono hb4.size)
        clear hc hb4 Hl4 Hm4 Ba4 Bb4
        go_wp2
        go_ret
        exact ⟨rfl, hb5⟩
      · go_wp2_with fail
        refine (rmayL_c A n c ls w3 Hn.out (by unfold maxLen; omega) Hl3.out Zl.out).mono ?_
        rintro e w4 ⟨rfl, hc⟩
        rw [g2]
        have Hl4 : Hid (Sl w4 A ls) := Hl3.out.after hc
        have Hm4 : Hid (Mx w4 m) := Hm3.out.after hc
        have Ba4 : Hid (Bx w4 b7 x) := Ba3.out.after hc
        have Bb4 : Hid (Bx w4 b8 y) := Bb3.out.after hc
        have hb4 := hb3.trans (hc.mono hb3.size)
        clear hc hb3 Hl3 Hm3 Ba3 Bb3
        cases g3 : [x, y].all rmB
        · have a0 := Ba4.out.cell0
          have a1 := Ba4.out.cell1
          have a2 := Ba4.out.cell2
          have c0 := Bb4.out.cell0
          have c1 := Bb4.out.cell1
          have c2 := Bb4.out.cell2
          go_wp2_with fail
          have k0 := below_one w4 (.cells (cells2 x y) 32)
          refine (rmayL_c (some ⟨w4.heap.size, 0, none⟩) 2 2 [x, y] (w4.alloc (.cells (cells2 x y) 32)) rfl (by unfold maxLen; omega) (Sl.new2 w4 x y) (fun z hz => by simp at hz; rcases hz with rfl | rfl; exact Zx.out; exact Zy.out)).mono ?_
          rintro e w5 ⟨rfl, hc0⟩
          rw [g3]
          have hc : Below w4.heap.size w4 w5 := k0.trans (hc0.mono (by simp))
          clear k0 hc0 a0 a1 a2 c0 c1 c2
          have Hl5 : Hid (Sl w5 A ls) := Hl4.out.after hc
          have Hm5 : Hid (Mx w5 m) := Hm4.out.after hc
          have Ba5 : Hid (Bx w5 b7 x) := Ba4.out.after hc
          have Bb5 : Hid (Bx w5 b8 y) := Bb4.out.after hc
          have hb5 := hb4.trans (hc.mono hb4.size)
          clear hc hb4 Hl4 Hm4 Ba4 Bb4
          go_wp2_with fail
          refine (fixed_c m w5 Hm5.out).mono ?_
          rintro e w6 ⟨rfl, hc⟩
          have Hl6 : Hid (Sl w6 A ls) := Hl5.out.after hc
          have Hm6 : Hid (Mx w6 m) := Hm5.out.after hc
          have Ba6 : Hid (Bx w6 b7 x) := Ba5.out.after hc
          have Bb6 : Hid (Bx w6 b8 y) := Bb5.out.after hc
          have hb6 := hb5.trans (hc.mono hb5.size)
          clear hc hb5 Hl5 Hm5 Ba5 Bb5
          go_wp2
          go_ret
          exact ⟨rfl, hb6⟩
        · have a0 := Ba4.out.cell0
          have a1 := Ba4.out.cell1
          have a2 := Ba4.out.cell2
          have c0 := Bb4.out.cell0
          have c1 := Bb4.out.cell1
          have c2 := Bb4.out.cell2
          go_wp2_with fail
          have k0 := below_one w4 (.cells (cells2 x y) 32)
          refine (rmayL_c (some ⟨w4.heap.size, 0, none⟩) 2 2 [x, y] (w4.alloc (.cells (cells2 x y) 32)) rfl (by unfold maxLen; omega) (Sl.new2 w4 x y) (fun z hz => by simp at hz; rcases hz with rfl | rfl; exact Zx.out; exact Zy.out)).mono ?_
          rintro e w5 ⟨rfl, hc0⟩
          rw [g3]
          have hc : Below w4.heap.size w4 w5 := k0.trans (hc0.mono (by simp))
          clear k0 hc0 a0 a1 a2 c0 c1 c2
          have Hl5 : Hid (Sl w5 A ls) := Hl4.out.after hc
          have Hm5 : Hid (Mx w5 m) := Hm4.out.after hc
          have Ba5 : Hid (Bx w5 b7 x) := Ba4.out.after hc
          have Bb5 : Hid (Bx w5 b8 y) := Bb4.out.after hc
          have hb5 := hb4.trans (hc.mono hb4.size)
          clear hc hb4 Hl4 Hm4 Ba4 Bb4
          by_cases h0 : k < 0
          · have d0 : decide (k < 0) = true := decide_eq_true h0
            go_wp2_with fail
            refine (fixed_c m w5 Hm5.out).mono ?_
            rintro e w6 ⟨rfl, hc⟩
            have Hl6 : Hid (Sl w6 A ls) := Hl5.out.after hc
            have Hm6 : Hid (Mx w6 m) := Hm5.out.after hc
            have Ba6 : Hid (Bx w6 b7 x) := Ba5.out.after hc
            have Bb6 : Hid (Bx w6 b8 y) := Bb5.out.after hc
            have hb6 := hb5.trans (hc.mono hb5.size)
            clear hc hb5 Hl5 Hm5 Ba5 Bb5
            go_wp2
            go_ret
            exact ⟨rfl, hb6⟩
          · have d0 : decide (k < 0) = false := decide_eq_false h0
            by_cases h1 : (n : Int) < k
            · have d1 : decide ((n : Int) < k) = true := decide_eq_true h1
              go_wp2_with fail
              refine (fixed_c m w5 Hm5.out).mono ?_
              rintro e w6 ⟨rfl, hc⟩
              have Hl6 : Hid (Sl w6 A ls) := Hl5.out.after hc
              have Hm6 : Hid (Mx w6 m) := Hm5.out.after hc
              have Ba6 : Hid (Bx w6 b7 x) := Ba5.out.after hc
              have Bb6 : Hid (Bx w6 b8 y) := Bb5.out.after hc
              have hb6 := hb5.trans (hc.mono hb5.size)
              clear hc hb5 Hl5 Hm5 Ba5 Bb5
              go_wp2
              go_ret
              exact ⟨rfl, hb6⟩
            · have d1 : decide ((n : Int) < k) = false := decide_eq_false h1
              obtain ⟨j, rfl⟩ : ∃ j : Nat, k = j := ⟨k.toNat, by omega⟩
              have gx : Good [x] := fun z hz => by
                simp at hz; subst hz
                exact ⟨valid_of z (by simp at g3; exact g3.1), Ix.out⟩
              have gy : Good [y] := fun z hz => by
                simp at hz; subst hz
                exact ⟨valid_of z (by simp at g3; exact g3.2), Iy.out⟩
              obtain ⟨ex, ey, el, ek, q, hex, hey, hel, hek, hq, hle, hpre⟩ := apart_ways ls x y j (good_of g2 Il.out) gx gy
              have Ex := Lib.hid hex
              have Ey := Lib.hid hey
              have El := Lib.hid hel
              have Ek := Lib.hid hek
              have Hq := Lib.hid hq
              have Hpre := Lib.hid hpre
              have Hle := Lib.hid hle
              have L1 := Lib.hid (short_len g1)
              have Sx := Lib.hid (small_one x (valid_size (gx x (by simp)).1) Ix.out)
              have Sy := Lib.hid (small_one y (valid_size (gy y (by simp)).1) Iy.out)
              have hn40 : n ≤ 40 := by have := L1.out.1; rw [Hn.out] at this; exact this
              have hj : j ≤ n := by omega
              clear hex hey hel hek hq hpre hle gx gy g1 g2 g3 h0 h1 d0 d1
              go_wp2_with fail
              refine Reg.wp_region_free mixed (by kernel_rfl) [(47, x.v), (49, .string ex), (50, y.v), (52, .string ey), (9, .string ex), (10, .string ey)] [48, 51] (fun i => if i == 1 then [48] else if i == 4 then [51] else []) (slQ 1 4 x y) 89 rfl (by kernel_rfl) ?_ ?_
              · intro g F hF hn hv w' hB
                have ba' := Ba5.out.after hB
                have bb' := Bb5.out.after hB
                have hm' := Hm5.out.after hB
                have hBw : w5.heap.size ≤ w'.heap.size := hB.size
                refine ⟨?_, ?_, ?_, ?_, ?_, ?_, ?_, ?_, trivial⟩
                · exact fun _ => Reg.does_exact hn hv (slQ_stab 1 4 x y) hBw (fun _ _ => trivial) rfl (Reg.doesV_val (ev_load ba' rfl (by rw [hF]; kernel_rfl)) (by rw [hF]; kernel_rfl) (by rw [hF]; kernel_rfl))
                · exact fun _ => Reg.does_free (d := 48) hn (slQ_stab 1 4 x y) hBw rfl (by decide) (by kernel_rfl) rfl (ev_build1 x rfl (by rw [hF]; kernel_rfl)) (by rw [hF]; kernel_rfl) (below_one _ _) ⟨_, rfl, Sl.new1 w' x⟩
                · intro hpre
                  obtain ⟨b, hs, hsl⟩ := hpre 1 (of_decide_eq_true (by kernel_rfl))
                  have hs' : F.eval (.tmp 48) = .slice (some ⟨b, 0, none⟩) 1 1 := List.head_eq_of_cons_eq hs
                  exact Reg.does_exact hn hv (slQ_stab 1 4 x y) hBw (fun _ _ => trivial) rfl (Reg.doesV_call (by have h := encode_c (some ⟨b, 0, none⟩) m 1 1 [x] w' rfl (by omega) hsl Sx.out.1 Sx.out.2 hm'; rw [← Ex.out] at h; exact h) (ev_call enEncode rfl (by simp only [List.map_toArray, List.map_cons, List.map_nil, hs'])) (by rw [hF]; kernel_rfl) (by rw [hF]; kernel_rfl))
                · exact fun _ => Reg.does_exact hn hv (slQ_stab 1 4 x y) hBw (fun _ _ => trivial) rfl (Reg.doesV_val (ev_load bb' rfl (by rw [hF]; kernel_rfl)) (by rw [hF]; kernel_rfl) (by rw [hF]; kernel_rfl))
                · exact fun _ => Reg.does_free (d := 51) hn (slQ_stab 1 4 x y) hBw rfl (by decide) (by kernel_rfl) rfl (ev_build1 y rfl (by rw [hF]; kernel_rfl)) (by rw [hF]; kernel_rfl) (below_one _ _) ⟨_, rfl, Sl.new1 w' y⟩
                · intro hpre
                  obtain ⟨b, hs, hsl⟩ := hpre 4 (of_decide_eq_true (by kernel_rfl))
                  have hs' : F.eval (.tmp 51) = .slice (some ⟨b, 0, none⟩) 1 1 := List.head_eq_of_cons_eq hs
                  exact Reg.does_exact hn hv (slQ_stab 1 4 x y) hBw (fun _ _ => trivial) rfl (Reg.doesV_call (by have h := encode_c (some ⟨b, 0, none⟩) m 1 1 [y] w' rfl (by omega) hsl Sy.out.1 Sy.out.2 hm'; rw [← Ey.out] at h; exact h) (ev_call enEncode rfl (by simp only [List.map_toArray, List.map_cons, List.map_nil, hs'])) (by rw [hF]; kernel_rfl) (by rw [hF]; kernel_rfl))
                · exact fun _ => Reg.does_exact hn hv (slQ_stab 1 4 x y) hBw (fun _ _ => trivial) rfl (Reg.doesV_val (ev_assign rfl) (by rw [hF]; kernel_rfl) (by rw [hF]; kernel_rfl))
                · exact fun _ => Reg.does_exact hn hv (slQ_stab 1 4 x y) hBw (fun _ _ => trivial) rfl (Reg.doesV_val (ev_assign rfl) (by rw [hF]; kernel_rfl) (by rw [hF]; kernel_rfl))
              intro g F hF w6 hc hall
              rw [hF]
              simp only [Reg.fin, List.cons_append, List.nil_append, List.map_cons, List.map_nil, Reg.putAll, Act.put, List.setIfInBounds_toArray, List.set_cons_zero, List.set_cons_succ]
              clear hall hF F
              generalize g 48 = s48
              generalize g 51 = s51
              clear g
              have Hl6 : Hid (Sl w6 A ls) := Hl5.out.after hc
              have Hm6 : Hid (Mx w6 m) := Hm5.out.after hc
              have Ba6 : Hid (Bx w6 b7 x) := Ba5.out.after hc
              have Bb6 : Hid (Bx w6 b8 y) := Bb5.out.after hc
              have hb6 := hb5.trans (hc.mono hb5.size)
              clear hc hb5 Hl5 Hm5 Ba5 Bb5
              go_wp2_with fail
              refine Reg.wp_region_vals mixed (by kernel_rfl) [(53, .slice A n c), (54, .string el), (55, .slice A n c), (56, .int .i64 j), (57, .slice A j c), (58, .string ek), (11, .string el), (12, .string ek)] 89 rfl (by kernel_rfl) ?_ ?_
              · intro F hF w' hB
                have hl' := Hl6.out.after hB
                have hm' := Hm6.out.after hB
                refine ⟨?_, ?_, ?_, ?_, ?_, ?_, ?_, ?_, trivial⟩
                · exact Reg.doesV_val (ev_move rfl) (by rw [hF]; kernel_rfl) (by rw [hF]; kernel_rfl)
                · exact Reg.doesV_call (by have h := encode_c A m n c ls w' Hn.out (by omega) hl' L1.out.2 Il.out hm'; rw [← El.out] at h; exact h) (ev_call enEncode rfl (by rw [hF]; kernel_rfl)) (by rw [hF]; kernel_rfl) (by rw [hF]; kernel_rfl)
                · exact Reg.doesV_val (ev_move rfl) (by rw [hF]; kernel_rfl) (by rw [hF]; kernel_rfl)
                · exact Reg.doesV_val (ev_move rfl) (by rw [hF]; kernel_rfl) (by rw [hF]; kernel_rfl)
                · exact Reg.doesV_val (ev_sliceTo (A := A) (n := n) (c := c) (k := j) rfl (by rw [hF]; kernel_rfl) (by rw [hF]; kernel_rfl) (by omega)) (by rw [hF]; kernel_rfl) (by rw [hF]; kernel_rfl)
                · exact Reg.doesV_call (by have h := encode_c A m j c (ls.take j) w' (by rw [List.length_take, Hn.out]; omega) (by omega) (hl'.take j) (fun z hz => L1.out.2 z (List.mem_of_mem_take hz)) (fun z hz => Il.out z (List.mem_of_mem_take hz)) hm'; rw [← Ek.out] at h; exact h) (ev_call enEncode rfl (by rw [hF]; kernel_rfl)) (by rw [hF]; kernel_rfl) (by rw [hF]; kernel_rfl)
                · exact Reg.doesV_val (ev_assign rfl) (by rw [hF]; kernel_rfl) (by rw [hF]; kernel_rfl)
                · exact Reg.doesV_val (ev_assign rfl) (by rw [hF]; kernel_rfl) (by rw [hF]; kernel_rfl)
              intro w7 hc
              simp only [Reg.putAll, Act.put, List.setIfInBounds_toArray, List.set_cons_zero, List.set_cons_succ]
              have Hl7 : Hid (Sl w7 A ls) := Hl6.out.after hc
              have Hm7 : Hid (Mx w7 m) := Hm6.out.after hc
              have Ba7 : Hid (Bx w7 b7 x) := Ba6.out.after hc
              have Bb7 : Hid (Bx w7 b8 y) := Bb6.out.after hc
              have hb7 := hb6.trans (hc.mono hb6.size)
              clear hc hb6 Hl6 Hm6 Ba6 Bb6
              go_wp2_with fail
              have hxs : ex.size ≤ 1000000 := by rw [Ex.out]; exact enc_small x Sx.out.1
              have hys : ey.size ≤ 1000000 := by rw [Ey.out]; exact enc_small y Sy.out.1
              by_cases hxy : ex.size ≤ ey.size
              · obtain ⟨q1, q2⟩ := Hq.out hxy
                have dxy : decide (ex.size ≤ ey.size) = true := decide_eq_true hxy
                have Q1 := Lib.hid q1
                have Q2 := Lib.hid q2
                clear q1 q2
                refine Reg.wp_region_vals mixed (by kernel_rfl) [(59, .string ex), (60, .int .i64 ex.size), (61, .string ey), (62, .int .i64 ey.size), (63, .bool true), (64, .bool true), (65, .string ey), (66, .string ex), (67, .int .i64 ex.size), (68, .string (ey.extract 0 ex.size)), (69, .string ex), (70, .bool q), (71, x.v), (72, y.v), (73, .bool q), (74, .bool false), (75, .bool false)] 89 rfl (by kernel_rfl) ?_ ?_
                · intro F hF w' hB
                  have ba' := Ba7.out.after hB
                  have bb' := Bb7.out.after hB
                  refine ⟨?_, ?_, ?_, ?_, ?_, ?_, ?_, ?_, ?_, ?_, ?_, ?_, ?_, ?_, ?_, ?_, ?_, trivial⟩
                  · exact Reg.doesV_val (ev_move rfl) (by rw [hF]; kernel_rfl) (by rw [hF]; kernel_rfl)
                  · exact Reg.doesV_val (ev_lenS (s := ex) rfl (by rw [hF]; kernel_rfl) hxs) (by rw [hF]; kernel_rfl) (by rw [hF]; kernel_rfl)
                  · exact Reg.doesV_val (ev_move rfl) (by rw [hF]; kernel_rfl) (by rw [hF]; kernel_rfl)
                  · exact Reg.doesV_val (ev_lenS (s := ey) rfl (by rw [hF]; kernel_rfl) hys) (by rw [hF]; kernel_rfl) (by rw [hF]; kernel_rfl)
                  · exact Reg.doesV_val (by rw [ev_leqI (a := ex.size) (b := ey.size) rfl (by rw [hF]; kernel_rfl) (by rw [hF]; kernel_rfl), dxy]) (by rw [hF]; kernel_rfl) (by rw [hF]; kernel_rfl)
                  · exact Reg.doesV_val (ev_move rfl) (by rw [hF]; kernel_rfl) (by rw [hF]; kernel_rfl)
                  · exact Reg.doesV_val (ev_move rfl) (by rw [hF]; kernel_rfl) (by rw [hF]; kernel_rfl)
                  · exact Reg.doesV_val (ev_move rfl) (by rw [hF]; kernel_rfl) (by rw [hF]; kernel_rfl)
                  · exact Reg.doesV_val (ev_lenS (s := ex) rfl (by rw [hF]; kernel_rfl) hxs) (by rw [hF]; kernel_rfl) (by rw [hF]; kernel_rfl)
                  · exact Reg.doesV_val (ev_sliceToS (s := ey) (k := ex.size) rfl (by rw [hF]; kernel_rfl) (by rw [hF]; kernel_rfl) hxy) (by rw [hF]; kernel_rfl) (by rw [hF]; kernel_rfl)
                  · exact Reg.doesV_val (ev_move rfl) (by rw [hF]; kernel_rfl) (by rw [hF]; kernel_rfl)
                  · exact Reg.doesV_val (by rw [ev_eqS2 (ey.extract 0 ex.size) ex rfl (by rw [hF]; kernel_rfl) (by rw [hF]; kernel_rfl), Q1.out]) (by rw [hF]; kernel_rfl) (by rw [hF]; kernel_rfl)
                  · exact Reg.doesV_val (ev_load ba' rfl (by rw [hF]; kernel_rfl)) (by rw [hF]; kernel_rfl) (by rw [hF]; kernel_rfl)
                  · exact Reg.doesV_val (ev_load bb' rfl (by rw [hF]; kernel_rfl)) (by rw [hF]; kernel_rfl) (by rw [hF]; kernel_rfl)
                  · exact Reg.doesV_val (by rw [ev_eq x y rfl (by rw [hF]; kernel_rfl) (by rw [hF]; kernel_rfl), Q2.out]) (by rw [hF]; kernel_rfl) (by rw [hF]; kernel_rfl)
                  · exact Reg.doesV_val (by rw [ev_neB q q rfl (by rw [hF]; kernel_rfl) (by rw [hF]; kernel_rfl), bne_self_eq_false]) (by rw [hF]; kernel_rfl) (by rw [hF]; kernel_rfl)
                  · exact Reg.doesV_val (ev_pick true rfl (by rw [hF]; kernel_rfl)) (by rw [hF]; kernel_rfl) (by rw [hF]; kernel_rfl)
                intro w8 hc
                simp only [Reg.putAll, Act.put, List.setIfInBounds_toArray, List.set_cons_zero, List.set_cons_succ]
                have Hl8 : Hid (Sl w8 A ls) := Hl7.out.after hc
                have Hm8 : Hid (Mx w8 m) := Hm7.out.after hc
                have Ba8 : Hid (Bx w8 b7 x) := Ba7.out.after hc
                have Bb8 : Hid (Bx w8 b8 y) := Bb7.out.after hc
                have hb8 := hb7.trans (hc.mono hb7.size)
                clear hc hb7 Hl7 Hm7 Ba7 Bb7
                have hle := Hle.out
                have dle : decide (ek.size ≤ el.size) = true := decide_eq_true hle
                have hpre := Hpre.out
                clear hxy dxy
                have hks : el.size ≤ 1000000 := by rw [El.out]; exact enc_smallL ls L1.out.2 L1.out.1
                go_wp2
                go_ret
                exact ⟨rfl, hb8⟩
              · have dxy : decide (ex.size ≤ ey.size) = false := decide_eq_false hxy
                refine Reg.wp_region_vals mixed (by kernel_rfl) [(59, .string ex), (60, .int .i64 ex.size), (61, .string ey), (62, .int .i64 ey.size), (63, .bool false), (64, .bool false), (65, undef), (66, undef), (67, undef), (68, undef), (69, undef), (70, undef), (71, undef), (72, undef), (73, undef), (74, undef), (75, .bool false)] 89 rfl (by kernel_rfl) ?_ ?_
                · intro F hF w' hB
                  have ba' := Ba7.out.after hB
                  have bb' := Bb7.out.after hB
                  refine ⟨?_, ?_, ?_, ?_, ?_, ?_, ?_, ?_, ?_, ?_, ?_, ?_, ?_, ?_, ?_, ?_, ?_, trivial⟩
                  · exact Reg.doesV_val (ev_move rfl) (by rw [hF]; kernel_rfl) (by rw [hF]; kernel_rfl)
                  · exact Reg.doesV_val (ev_lenS (s := ex) rfl (by rw [hF]; kernel_rfl) hxs) (by rw [hF]; kernel_rfl) (by rw [hF]; kernel_rfl)
                  · exact Reg.doesV_val (ev_move rfl) (by rw [hF]; kernel_rfl) (by rw [hF]; kernel_rfl)
                  · exact Reg.doesV_val (ev_lenS (s := ey) rfl (by rw [hF]; kernel_rfl) hys) (by rw [hF]; kernel_rfl) (by rw [hF]; kernel_rfl)
                  · exact Reg.doesV_val (by rw [ev_leqI (a := ex.size) (b := ey.size) rfl (by rw [hF]; kernel_rfl) (by rw [hF]; kernel_rfl), dxy]) (by rw [hF]; kernel_rfl) (by rw [hF]; kernel_rfl)
                  · exact Reg.doesV_val (ev_move rfl) (by rw [hF]; kernel_rfl) (by rw [hF]; kernel_rfl)
                  · exact Reg.doesV_skip (by rw [hF]; kernel_rfl) (by rw [hF]; kernel_rfl)
                  · exact Reg.doesV_skip (by rw [hF]; kernel_rfl) (by rw [hF]; kernel_rfl)
                  · exact Reg.doesV_skip (by rw [hF]; kernel_rfl) (by rw [hF]; kernel_rfl)
                  · exact Reg.doesV_skip (by rw [hF]; kernel_rfl) (by rw [hF]; kernel_rfl)
                  · exact Reg.doesV_skip (by rw [hF]; kernel_rfl) (by rw [hF]; kernel_rfl)
                  · exact Reg.doesV_skip (by rw [hF]; kernel_rfl) (by rw [hF]; kernel_rfl)
                  · exact Reg.doesV_skip (by rw [hF]; kernel_rfl) (by rw [hF]; kernel_rfl)
                  · exact Reg.doesV_skip (by rw [hF]; kernel_rfl) (by rw [hF]; kernel_rfl)
                  · exact Reg.doesV_skip (by rw [hF]; kernel_rfl) (by rw [hF]; kernel_rfl)
                  · exact Reg.doesV_skip (by rw [hF]; kernel_rfl) (by rw [hF]; kernel_rfl)
                  · exact Reg.doesV_val (ev_pick false rfl (by rw [hF]; kernel_rfl)) (by rw [hF]; kernel_rfl) (by rw [hF]; kernel_rfl)
                intro w8 hc
                simp only [Reg.putAll, Act.put, List.setIfInBounds_toArray, List.set_cons_zero, List.set_cons_succ]
                have Hl8 : Hid (Sl w8 A ls) := Hl7.out.after hc
                have Hm8 : Hid (Mx w8 m) := Hm7.out.after hc
                have Ba8 : Hid (Bx w8 b7 x) := Ba7.out.after hc
                have Bb8 : Hid (Bx w8 b8 y) := Bb7.out.after hc
                have hb8 := hb7.trans (hc.mono hb7.size)
                clear hc hb7 Hl7 Hm7 Ba7 Bb7
                have hle := Hle.out
                have dle : decide (ek.size ≤ el.size) = true := decide_eq_true hle
                have hpre := Hpre.out
                clear hxy dxy
                have hks : el.size ≤ 1000000 := by rw [El.out]; exact enc_smallL ls L1.out.2 L1.out.1
                go_wp2
                go_ret
                exact ⟨rfl, hb8⟩
  · have b1 : Bx (((w.alloc (.cells #[.int .i64 x.k, .int .i64 x.n, .string x.s, .int .i64 y.k, .int .i64 y.n, .string y.s] 33)).alloc (.cells #[.int .i64 y.k, .int .i64 y.n, .string y.s] 32)).alloc (.cells #[.int .i64 x.k, .int .i64 x.n, .string x.s] 32)).drew (w.heap.size + 1) y := by
      have h := (Bx.new (w.alloc (.cells #[.int .i64 x.k, .int .i64 x.n, .string x.s, .int .i64 y.k, .int .i64 y.n, .string y.s] 33)) y).alloc (.cells #[.int .i64 x.k, .int .i64 x.n, .string x.s] 32)
      rw [size_alloc] at h
      exact h
    have b2 : Bx (((w.alloc (.cells #[.int .i64 x.k, .int .i64 x.n, .string x.s, .int .i64 y.k, .int .i64 y.n, .string y.s] 33)).alloc (.cells #[.int .i64 y.k, .int .i64 y.n, .string y.s] 32)).alloc (.cells #[.int .i64 x.k, .int .i64 x.n, .string x.s] 32)).drew (w.heap.size + 1 + 1) x := by
      have h := Bx.new1 (w.alloc (.cells #[.int .i64 x.k, .int .i64 x.n, .string x.s, .int .i64 y.k, .int .i64 y.n, .string y.s] 33)) x (.cells #[.int .i64 y.k, .int .i64 y.n, .string y.s] 32)
      rw [size_alloc] at h
      exact h
    have hb1 : Below w.heap.size w (((w.alloc (.cells #[.int .i64 x.k, .int .i64 x.n, .string x.s, .int .i64 y.k, .int .i64 y.n, .string y.s] 33)).alloc (.cells #[.int .i64 y.k, .int .i64 y.n, .string y.s] 32)).alloc (.cells #[.int .i64 x.k, .int .i64 x.n, .string x.s] 32)).drew := by
      have h := ((below_one w (.cells #[.int .i64 x.k, .int .i64 x.n, .string x.s, .int .i64 y.k, .int .i64 y.n, .string y.s] 33)).alloc (by simp) (.cells #[.int .i64 y.k, .int .i64 y.n, .string y.s] 32)).alloc (by simp; omega) (.cells #[.int .i64 x.k, .int .i64 x.n, .string x.s] 32)
      exact ⟨h.os, h.tape, h.output, h.size, h.block⟩
    generalize (((w.alloc (.cells #[.int .i64 x.k, .int .i64 x.n, .string x.s, .int .i64 y.k, .int .i64 y.n, .string y.s] 33)).alloc (.cells #[.int .i64 y.k, .int .i64 y.n, .string y.s] 32)).alloc (.cells #[.int .i64 x.k, .int .i64 x.n, .string x.s] 32)).drew = w1 at b1 b2 hb1 ⊢
    generalize w.heap.size + 1 + 1 = b7 at b2 ⊢
    generalize w.heap.size + 1 = b8 at b1 ⊢
    have Hl1 : Hid (Sl w1 A ls) := Hl'.out.after hb1
    have Hm1 : Hid (Mx w1 m) := Hm'.out.after hb1
    have Ba1 : Hid (Bx w1 b7 x) := b2
    have Bb1 : Hid (Bx w1 b8 y) := b1
    clear b1 b2 Hl' Hm'
    go_wp2_with fail
    refine (fixed_c m w1 Hm1.out).mono ?_
    rintro e w2 ⟨rfl, hc⟩
    have Hl2 : Hid (Sl w2 A ls) := Hl1.out.after hc
    have Hm2 : Hid (Mx w2 m) := Hm1.out.after hc
    have Ba2 : Hid (Bx w2 b7 x) := Ba1.out.after hc
    have Bb2 : Hid (Bx w2 b8 y) := Bb1.out.after hc
    have hb2 := hb1.trans (hc.mono hb1.size)
    clear hc hb1 Hl1 Hm1 Ba1 Bb1
    cases g1 : shortB ls
    · go_wp2_with fail
      refine (short_c A n c ls w2 Hn.out (by unfold maxLen; omega) Hl2.out Zl.out).mono ?_
      rintro e w3 ⟨rfl, hc⟩
      rw [g1]
      have Hl3 : Hid (Sl w3 A ls) := Hl2.out.after hc
      have Hm3 : Hid (Mx w3 m) := Hm2.out.after hc
      have Ba3 : Hid (Bx w3 b7 x) := Ba2.out.after hc
      have Bb3 : Hid (Bx w3 b8 y) := Bb2.out.after hc
      have hb3 := hb2.trans (hc.mono hb2.size)
      clear hc hb2 Hl2 Hm2 Ba2 Bb2
      go_wp2_with fail
      refine (fixed_c m w3 Hm3.out).mono ?_
      rintro e w4 ⟨rfl, hc⟩
      have Hl4 : Hid (Sl w4 A ls) := Hl3.out.after hc
      have Hm4 : Hid (Mx w4 m) := Hm3.out.after hc
      have Ba4 : Hid (Bx w4 b7 x) := Ba3.out.after hc
      have Bb4 : Hid (Bx w4 b8 y) := Bb3.out.after hc
      have hb4 := hb3.trans (hc.mono hb3.size)
      clear hc hb3 Hl3 Hm3 Ba3 Bb3
      go_wp2
      go_ret
      exact ⟨rfl, hb4⟩
    · go_wp2_with fail
      refine (short_c A n c ls w2 Hn.out (by unfold maxLen; omega) Hl2.out Zl.out).mono ?_
      rintro e w3 ⟨rfl, hc⟩
      rw [g1]
      have Hl3 : Hid (Sl w3 A ls) := Hl2.out.after hc
      have Hm3 : Hid (Mx w3 m) := Hm2.out.after hc
      have Ba3 : Hid (Bx w3 b7 x) := Ba2.out.after hc
      have Bb3 : Hid (Bx w3 b8 y) := Bb2.out.after hc
      have hb3 := hb2.trans (hc.mono hb2.size)
      clear hc hb2 Hl2 Hm2 Ba2 Bb2
      cases g2 : ls.all rmB
      · go_wp2_with fail
        refine (rmayL_c A n c ls w3 Hn.out (by unfold maxLen; omega) Hl3.out Zl.out).mono ?_
        rintro e w4 ⟨rfl, hc⟩
        rw [g2]
        have Hl4 : Hid (Sl w4 A ls) := Hl3.out.after hc
        have Hm4 : Hid (Mx w4 m) := Hm3.out.after hc
        have Ba4 : Hid (Bx w4 b7 x) := Ba3.out.after hc
        have Bb4 : Hid (Bx w4 b8 y) := Bb3.out.after hc
        have hb4 := hb3.trans (hc.mono hb3.size)
        clear hc hb3 Hl3 Hm3 Ba3 Bb3
        go_wp2_with fail
        refine (fixed_c m w4 Hm4.out).mono ?_
        rintro e w5 ⟨rfl, hc⟩
        have Hl5 : Hid (Sl w5 A ls) := Hl4.out.after hc
        have Hm5 : Hid (Mx w5 m) := Hm4.out.after hc
        have Ba5 : Hid (Bx w5 b7 x) := Ba4.out.after hc
        have Bb5 : Hid (Bx w5 b8 y) := Bb4.out.after hc
        have hb5 := hb4.trans (hc.mono hb4.size)
        clear hc hb4 Hl4 Hm4 Ba4 Bb4
        go_wp2
        go_ret
        exact ⟨rfl, hb5⟩
      · go_wp2_with fail
        refine (rmayL_c A n c ls w3 Hn.out (by unfold maxLen; omega) Hl3.out Zl.out).mono ?_
        rintro e w4 ⟨rfl, hc⟩
        rw [g2]
        have Hl4 : Hid (Sl w4 A ls) := Hl3.out.after hc
        have Hm4 : Hid (Mx w4 m) := Hm3.out.after hc
        have Ba4 : Hid (Bx w4 b7 x) := Ba3.out.after hc
        have Bb4 : Hid (Bx w4 b8 y) := Bb3.out.after hc
        have hb4 := hb3.trans (hc.mono hb3.size)
        clear hc hb3 Hl3 Hm3 Ba3 Bb3
        cases g3 : [x, y].all rmB
        · have a0 := Ba4.out.cell0
          have a1 := Ba4.out.cell1
          have a2 := Ba4.out.cell2
          have c0 := Bb4.out.cell0
          have c1 := Bb4.out.cell1
          have c2 := Bb4.out.cell2
          go_wp2_with fail
          have k0 := below_one w4 (.cells (cells2 x y) 32)
          refine (rmayL_c (some ⟨w4.heap.size, 0, none⟩) 2 2 [x, y] (w4.alloc (.cells (cells2 x y) 32)) rfl (by unfold maxLen; omega) (Sl.new2 w4 x y) (fun z hz => by simp at hz; rcases hz with rfl | rfl; exact Zx.out; exact Zy.out)).mono ?_
          rintro e w5 ⟨rfl, hc0⟩
          rw [g3]
          have hc : Below w4.heap.size w4 w5 := k0.trans (hc0.mono (by simp))
          clear k0 hc0 a0 a1 a2 c0 c1 c2
          have Hl5 : Hid (Sl w5 A ls) := Hl4.out.after hc
          have Hm5 : Hid (Mx w5 m) := Hm4.out.after hc
          have Ba5 : Hid (Bx w5 b7 x) := Ba4.out.after hc
          have Bb5 : Hid (Bx w5 b8 y) := Bb4.out.after hc
          have hb5 := hb4.trans (hc.mono hb4.size)
          clear hc hb4 Hl4 Hm4 Ba4 Bb4
          go_wp2_with fail
          refine (fixed_c m w5 Hm5.out).mono ?_
          rintro e w6 ⟨rfl, hc⟩
          have Hl6 : Hid (Sl w6 A ls) := Hl5.out.after hc
          have Hm6 : Hid (Mx w6 m) := Hm5.out.after hc
          have Ba6 : Hid (Bx w6 b7 x) := Ba5.out.after hc
          have Bb6 : Hid (Bx w6 b8 y) := Bb5.out.after hc
          have hb6 := hb5.trans (hc.mono hb5.size)
          clear hc hb5 Hl5 Hm5 Ba5 Bb5
          go_wp2
          go_ret
          exact ⟨rfl, hb6⟩
        · have a0 := Ba4.out.cell0
          have a1 := Ba4.out.cell1
          have a2 := Ba4.out.cell2
          have c0 := Bb4.out.cell0
          have c1 := Bb4.out.cell1
          have c2 := Bb4.out.cell2
          go_wp2_with fail
          have k0 := below_one w4 (.cells (cells2 x y) 32)
          refine (rmayL_c (some ⟨w4.heap.size, 0, none⟩) 2 2 [x, y] (w4.alloc (.cells (cells2 x y) 32)) rfl (by unfold maxLen; omega) (Sl.new2 w4 x y) (fun z hz => by simp at hz; rcases hz with rfl | rfl; exact Zx.out; exact Zy.out)).mono ?_
          rintro e w5 ⟨rfl, hc0⟩
          rw [g3]
          have hc : Below w4.heap.size w4 w5 := k0.trans (hc0.mono (by simp))
          clear k0 hc0 a0 a1 a2 c0 c1 c2
          have Hl5 : Hid (Sl w5 A ls) := Hl4.out.after hc
          have Hm5 : Hid (Mx w5 m) := Hm4.out.after hc
          have Ba5 : Hid (Bx w5 b7 x) := Ba4.out.after hc
          have Bb5 : Hid (Bx w5 b8 y) := Bb4.out.after hc
          have hb5 := hb4.trans (hc.mono hb4.size)
          clear hc hb4 Hl4 Hm4 Ba4 Bb4
          by_cases h0 : k < 0
          · have d0 : decide (k < 0) = true := decide_eq_true h0
            go_wp2_with fail
            refine (fixed_c m w5 Hm5.out).mono ?_
            rintro e w6 ⟨rfl, hc⟩
            have Hl6 : Hid (Sl w6 A ls) := Hl5.out.after hc
            have Hm6 : Hid (Mx w6 m) := Hm5.out.after hc
            have Ba6 : Hid (Bx w6 b7 x) := Ba5.out.after hc
            have Bb6 : Hid (Bx w6 b8 y) := Bb5.out.after hc
            have hb6 := hb5.trans (hc.mono hb5.size)
            clear hc hb5 Hl5 Hm5 Ba5 Bb5
            go_wp2
            go_ret
            exact ⟨rfl, hb6⟩
          · have d0 : decide (k < 0) = false := decide_eq_false h0
            by_cases h1 : (n : Int) < k
            · have d1 : decide ((n : Int) < k) = true := decide_eq_true h1
              go_wp2_with fail
              refine (fixed_c m w5 Hm5.out).mono ?_
              rintro e w6 ⟨rfl, hc⟩
              have Hl6 : Hid (Sl w6 A ls) := Hl5.out.after hc
              have Hm6 : Hid (Mx w6 m) := Hm5.out.after hc
              have Ba6 : Hid (Bx w6 b7 x) := Ba5.out.after hc
              have Bb6 : Hid (Bx w6 b8 y) := Bb5.out.after hc
              have hb6 := hb5.trans (hc.mono hb5.size)
              clear hc hb5 Hl5 Hm5 Ba5 Bb5
              go_wp2
              go_ret
              exact ⟨rfl, hb6⟩
            · have d1 : decide ((n : Int) < k) = false := decide_eq_false h1
              obtain ⟨j, rfl⟩ : ∃ j : Nat, k = j := ⟨k.toNat, by omega⟩
              have gx : Good [x] := fun z hz => by
                simp at hz; subst hz
                exact ⟨valid_of z (by simp at g3; exact g3.1), Ix.out⟩
              have gy : Good [y] := fun z hz => by
                simp at hz; subst hz
                exact ⟨valid_of z (by simp at g3; exact g3.2), Iy.out⟩
              obtain ⟨ex, ey, el, ek, q, hex, hey, hel, hek, hq, hle, hpre⟩ := apart_ways ls x y j (good_of g2 Il.out) gx gy
              have Ex := Lib.hid hex
              have Ey := Lib.hid hey
              have El := Lib.hid hel
              have Ek := Lib.hid hek
              have Hq := Lib.hid hq
              have Hpre := Lib.hid hpre
              have Hle := Lib.hid hle
              have L1 := Lib.hid (short_len g1)
              have Sx := Lib.hid (small_one x (valid_size (gx x (by simp)).1) Ix.out)
              have Sy := Lib.hid (small_one y (valid_size (gy y (by simp)).1) Iy.out)
              have hn40 : n ≤ 40 := by have := L1.out.1; rw [Hn.out] at this; exact this
              have hj : j ≤ n := by omega
              clear hex hey hel hek hq hpre hle gx gy g1 g2 g3 h0 h1 d0 d1
              go_wp2_with fail
              refine Reg.wp_region_free mixed (by kernel_rfl) [(47, x.v), (49, .string ex), (50, y.v), (52, .string ey), (9, .string ex), (10, .string ey)] [48, 51] (fun i => if i == 1 then [48] else if i == 4 then [51] else []) (slQ 1 4 x y) 89 rfl (by kernel_rfl) ?_ ?_
              · intro g F hF hn hv w' hB
                have ba' := Ba5.out.after hB
                have bb' := Bb5.out.after hB
                have hm' := Hm5.out.after hB
                have hBw : w5.heap.size ≤ w'.heap.size := hB.size
                refine ⟨?_, ?_, ?_, ?_, ?_, ?_, ?_, ?_, trivial⟩
                · exact fun _ => Reg.does_exact hn hv (slQ_stab 1 4 x y) hBw (fun _ _ => trivial) rfl (Reg.doesV_val (ev_load ba' rfl (by rw [hF]; kernel_rfl)) (by rw [hF]; kernel_rfl) (by rw [hF]; kernel_rfl))
                · exact fun _ => Reg.does_free (d := 48) hn (slQ_stab 1 4 x y) hBw rfl (by decide) (by kernel_rfl) rfl (ev_build1 x rfl (by rw [hF]; kernel_rfl)) (by rw [hF]; kernel_rfl) (below_one _ _) ⟨_, rfl, Sl.new1 w' x⟩
                · intro hpre
                  obtain ⟨b, hs, hsl⟩ := hpre 1 (of_decide_eq_true (by kernel_rfl))
                  have hs' : F.eval (.tmp 48) = .slice (some ⟨b, 0, none⟩) 1 1 := List.head_eq_of_cons_eq hs
                  exact Reg.does_exact hn hv (slQ_stab 1 4 x y) hBw (fun _ _ => trivial) rfl (Reg.doesV_call (by have h := encode_c (some ⟨b, 0, none⟩) m 1 1 [x] w' rfl (by omega) hsl Sx.out.1 Sx.out.2 hm'; rw [← Ex.out] at h; exact h) (ev_call enEncode rfl (by simp only [List.map_toArray, List.map_cons, List.map_nil, hs'])) (by rw [hF]; kernel_rfl) (by rw [hF]; kernel_rfl))
                · exact fun _ => Reg.does_exact hn hv (slQ_stab 1 4 x y) hBw (fun _ _ => trivial) rfl (Reg.doesV_val (ev_load bb' rfl (by rw [hF]; kernel_rfl)) (by rw [hF]; kernel_rfl) (by rw [hF]; kernel_rfl))
                · exact fun _ => Reg.does_free (d := 51) hn (slQ_stab 1 4 x y) hBw rfl (by decide) (by kernel_rfl) rfl (ev_build1 y rfl (by rw [hF]; kernel_rfl)) (by rw [hF]; kernel_rfl) (below_one _ _) ⟨_, rfl, Sl.new1 w' y⟩
                · intro hpre
                  obtain ⟨b, hs, hsl⟩ := hpre 4 (of_decide_eq_true (by kernel_rfl))
                  have hs' : F.eval (.tmp 51) = .slice (some ⟨b, 0, none⟩) 1 1 := List.head_eq_of_cons_eq hs
                  exact Reg.does_exact hn hv (slQ_stab 1 4 x y) hBw (fun _ _ => trivial) rfl (Reg.doesV_call (by have h := encode_c (some ⟨b, 0, none⟩) m 1 1 [y] w' rfl (by omega) hsl Sy.out.1 Sy.out.2 hm'; rw [← Ey.out] at h; exact h) (ev_call enEncode rfl (by simp only [List.map_toArray, List.map_cons, List.map_nil, hs'])) (by rw [hF]; kernel_rfl) (by rw [hF]; kernel_rfl))
                · exact fun _ => Reg.does_exact hn hv (slQ_stab 1 4 x y) hBw (fun _ _ => trivial) rfl (Reg.doesV_val (ev_assign rfl) (by rw [hF]; kernel_rfl) (by rw [hF]; kernel_rfl))
                · exact fun _ => Reg.does_exact hn hv (slQ_stab 1 4 x y) hBw (fun _ _ => trivial) rfl (Reg.doesV_val (ev_assign rfl) (by rw [hF]; kernel_rfl) (by rw [hF]; kernel_rfl))
              intro g F hF w6 hc hall
              rw [hF]
              simp only [Reg.fin, List.cons_append, List.nil_append, List.map_cons, List.map_nil, Reg.putAll, Act.put, List.setIfInBounds_toArray, List.set_cons_zero, List.set_cons_succ]
              clear hall hF F
              generalize g 48 = s48
              generalize g 51 = s51
              clear g
              have Hl6 : Hid (Sl w6 A ls) := Hl5.out.after hc
              have Hm6 : Hid (Mx w6 m) := Hm5.out.after hc
              have Ba6 : Hid (Bx w6 b7 x) := Ba5.out.after hc
              have Bb6 : Hid (Bx w6 b8 y) := Bb5.out.after hc
              have hb6 := hb5.trans (hc.mono hb5.size)
              clear hc hb5 Hl5 Hm5 Ba5 Bb5
              go_wp2_with fail
              refine Reg.wp_region_vals mixed (by kernel_rfl) [(53, .slice A n c), (54, .string el), (55, .slice A n c), (56, .int .i64 j), (57, .slice A j c), (58, .string ek), (11, .string el), (12, .string ek)] 89 rfl (by kernel_rfl) ?_ ?_
              · intro F hF w' hB
                have hl' := Hl6.out.after hB
                have hm' := Hm6.out.after hB
                refine ⟨?_, ?_, ?_, ?_, ?_, ?_, ?_, ?_, trivial⟩
                · exact Reg.doesV_val (ev_move rfl) (by rw [hF]; kernel_rfl) (by rw [hF]; kernel_rfl)
                · exact Reg.doesV_call (by have h := encode_c A m n c ls w' Hn.out (by omega) hl' L1.out.2 Il.out hm'; rw [← El.out] at h; exact h) (ev_call enEncode rfl (by rw [hF]; kernel_rfl)) (by rw [hF]; kernel_rfl) (by rw [hF]; kernel_rfl)
                · exact Reg.doesV_val (ev_move rfl) (by rw [hF]; kernel_rfl) (by rw [hF]; kernel_rfl)
                · exact Reg.doesV_val (ev_move rfl) (by rw [hF]; kernel_rfl) (by rw [hF]; kernel_rfl)
                · exact Reg.doesV_val (ev_sliceTo (A := A) (n := n) (c := c) (k := j) rfl (by rw [hF]; kernel_rfl) (by rw [hF]; kernel_rfl) (by omega)) (by rw [hF]; kernel_rfl) (by rw [hF]; kernel_rfl)
                · exact Reg.doesV_call (by have h := encode_c A m j c (ls.take j) w' (by rw [List.length_take, Hn.out]; omega) (by omega) (hl'.take j) (fun z hz => L1.out.2 z (List.mem_of_mem_take hz)) (fun z hz => Il.out z (List.mem_of_mem_take hz)) hm'; rw [← Ek.out] at h; exact h) (ev_call enEncode rfl (by rw [hF]; kernel_rfl)) (by rw [hF]; kernel_rfl) (by rw [hF]; kernel_rfl)
                · exact Reg.doesV_val (ev_assign rfl) (by rw [hF]; kernel_rfl) (by rw [hF]; kernel_rfl)
                · exact Reg.doesV_val (ev_assign rfl) (by rw [hF]; kernel_rfl) (by rw [hF]; kernel_rfl)
              intro w7 hc
              simp only [Reg.putAll, Act.put, List.setIfInBounds_toArray, List.set_cons_zero, List.set_cons_succ]
              have Hl7 : Hid (Sl w7 A ls) := Hl6.out.after hc
              have Hm7 : Hid (Mx w7 m) := Hm6.out.after hc
              have Ba7 : Hid (Bx w7 b7 x) := Ba6.out.after hc
              have Bb7 : Hid (Bx w7 b8 y) := Bb6.out.after hc
              have hb7 := hb6.trans (hc.mono hb6.size)
              clear hc hb6 Hl6 Hm6 Ba6 Bb6
              go_wp2_with fail
              have hxs : ex.size ≤ 1000000 := by rw [Ex.out]; exact enc_small x Sx.out.1
              have hys : ey.size ≤ 1000000 := by rw [Ey.out]; exact enc_small y Sy.out.1
              by_cases hxy : ex.size ≤ ey.size
              · obtain ⟨q1, q2⟩ := Hq.out hxy
                have dxy : decide (ex.size ≤ ey.size) = true := decide_eq_true hxy
                have Q1 := Lib.hid q1
                have Q2 := Lib.hid q2
                clear q1 q2
                refine Reg.wp_region_vals mixed (by kernel_rfl) [(59, .string ex), (60, .int .i64 ex.size), (61, .string ey), (62, .int .i64 ey.size), (63, .bool true), (64, .bool true), (65, .string ey), (66, .string ex), (67, .int .i64 ex.size), (68, .string (ey.extract 0 ex.size)), (69, .string ex), (70, .bool q), (71, x.v), (72, y.v), (73, .bool q), (74, .bool false), (75, .bool false)] 89 rfl (by kernel_rfl) ?_ ?_
                · intro F hF w' hB
                  have ba' := Ba7.out.after hB
                  have bb' := Bb7.out.after hB
                  refine ⟨?_, ?_, ?_, ?_, ?_, ?_, ?_, ?_, ?_, ?_, ?_, ?_, ?_, ?_, ?_, ?_, ?_, trivial⟩
                  · exact Reg.doesV_val (ev_move rfl) (by rw [hF]; kernel_rfl) (by rw [hF]; kernel_rfl)
                  · exact Reg.doesV_val (ev_lenS (s := ex) rfl (by rw [hF]; kernel_rfl) hxs) (by rw [hF]; kernel_rfl) (by rw [hF]; kernel_rfl)
                  · exact Reg.doesV_val (ev_move rfl) (by rw [hF]; kernel_rfl) (by rw [hF]; kernel_rfl)
                  · exact Reg.doesV_val (ev_lenS (s := ey) rfl (by rw [hF]; kernel_rfl) hys) (by rw [hF]; kernel_rfl) (by rw [hF]; kernel_rfl)
                  · exact Reg.doesV_val (by rw [ev_leqI (a := ex.size) (b := ey.size) rfl (by rw [hF]; kernel_rfl) (by rw [hF]; kernel_rfl), dxy]) (by rw [hF]; kernel_rfl) (by rw [hF]; kernel_rfl)
                  · exact Reg.doesV_val (ev_move rfl) (by rw [hF]; kernel_rfl) (by rw [hF]; kernel_rfl)
                  · exact Reg.doesV_val (ev_move rfl) (by rw [hF]; kernel_rfl) (by rw [hF]; kernel_rfl)
                  · exact Reg.doesV_val (ev_move rfl) (by rw [hF]; kernel_rfl) (by rw [hF]; kernel_rfl)
                  · exact Reg.doesV_val (ev_lenS (s := ex) rfl (by rw [hF]; kernel_rfl) hxs) (by rw [hF]; kernel_rfl) (by rw [hF]; kernel_rfl)
                  · exact Reg.doesV_val (ev_sliceToS (s := ey) (k := ex.size) rfl (by rw [hF]; kernel_rfl) (by rw [hF]; kernel_rfl) hxy) (by rw [hF]; kernel_rfl) (by rw [hF]; kernel_rfl)
                  · exact Reg.doesV_val (ev_move rfl) (by rw [hF]; kernel_rfl) (by rw [hF]; kernel_rfl)
                  · exact Reg.doesV_val (by rw [ev_eqS2 (ey.extract 0 ex.size) ex rfl (by rw [hF]; kernel_rfl) (by rw [hF]; kernel_rfl), Q1.out]) (by rw [hF]; kernel_rfl) (by rw [hF]; kernel_rfl)
                  · exact Reg.doesV_val (ev_load ba' rfl (by rw [hF]; kernel_rfl)) (by rw [hF]; kernel_rfl) (by rw [hF]; kernel_rfl)
                  · exact Reg.doesV_val (ev_load bb' rfl (by rw [hF]; kernel_rfl)) (by rw [hF]; kernel_rfl) (by rw [hF]; kernel_rfl)
                  · exact Reg.doesV_val (by rw [ev_eq x y rfl (by rw [hF]; kernel_rfl) (by rw [hF]; kernel_rfl), Q2.out]) (by rw [hF]; kernel_rfl) (by rw [hF]; kernel_rfl)
                  · exact Reg.doesV_val (by rw [ev_neB q q rfl (by rw [hF]; kernel_rfl) (by rw [hF]; kernel_rfl), bne_self_eq_false]) (by rw [hF]; kernel_rfl) (by rw [hF]; kernel_rfl)
                  · exact Reg.doesV_val (ev_pick true rfl (by rw [hF]; kernel_rfl)) (by rw [hF]; kernel_rfl) (by rw [hF]; kernel_rfl)
                intro w8 hc
                simp only [Reg.putAll, Act.put, List.setIfInBounds_toArray, List.set_cons_zero, List.set_cons_succ]
                have Hl8 : Hid (Sl w8 A ls) := Hl7.out.after hc
                have Hm8 : Hid (Mx w8 m) := Hm7.out.after hc
                have Ba8 : Hid (Bx w8 b7 x) := Ba7.out.after hc
                have Bb8 : Hid (Bx w8 b8 y) := Bb7.out.after hc
                have hb8 := hb7.trans (hc.mono hb7.size)
                clear hc hb7 Hl7 Hm7 Ba7 Bb7
                have hle := Hle.out
                have dle : decide (ek.size ≤ el.size) = true := decide_eq_true hle
                have hpre := Hpre.out
                clear hxy dxy
                have hks : el.size ≤ 1000000 := by rw [El.out]; exact enc_smallL ls L1.out.2 L1.out.1
                go_wp2
                go_ret
                exact ⟨rfl, hb8⟩
              · have dxy : decide (ex.size ≤ ey.size) = false := decide_eq_false hxy
                refine Reg.wp_region_vals mixed (by kernel_rfl) [(59, .string ex), (60, .int .i64 ex.size), (61, .string ey), (62, .int .i64 ey.size), (63, .bool false), (64, .bool false), (65, undef), (66, undef), (67, undef), (68, undef), (69, undef), (70, undef), (71, undef), (72, undef), (73, undef), (74, undef), (75, .bool false)] 89 rfl (by kernel_rfl) ?_ ?_
                · intro F hF w' hB
                  have ba' := Ba7.out.after hB
                  have bb' := Bb7.out.after hB
                  refine ⟨?_, ?_, ?_, ?_, ?_, ?_, ?_, ?_, ?_, ?_, ?_, ?_, ?_, ?_, ?_, ?_, ?_, trivial⟩
                  · exact Reg.doesV_val (ev_move rfl) (by rw [hF]; kernel_rfl) (by rw [hF]; kernel_rfl)
                  · exact Reg.doesV_val (ev_lenS (s := ex) rfl (by rw [hF]; kernel_rfl) hxs) (by rw [hF]; kernel_rfl) (by rw [hF]; kernel_rfl)
                  · exact Reg.doesV_val (ev_move rfl) (by rw [hF]; kernel_rfl) (by rw [hF]; kernel_rfl)
                  · exact Reg.doesV_val (ev_lenS (s := ey) rfl (by rw [hF]; kernel_rfl) hys) (by rw [hF]; kernel_rfl) (by rw [hF]; kernel_rfl)
                  · exact Reg.doesV_val (by rw [ev_leqI (a := ex.size) (b := ey.size) rfl (by rw [hF]; kernel_rfl) (by rw [hF]; kernel_rfl), dxy]) (by rw [hF]; kernel_rfl) (by rw [hF]; kernel_rfl)
                  · exact Reg.doesV_val (ev_move rfl) (by rw [hF]; kernel_rfl) (by rw [hF]; kernel_rfl)
                  · exact Reg.doesV_skip (by rw [hF]; kernel_rfl) (by rw [hF]; kernel_rfl)
                  · exact Reg.doesV_skip (by rw [hF]; kernel_rfl) (by rw [hF]; kernel_rfl)
                  · exact Reg.doesV_skip (by rw [hF]; kernel_rfl) (by rw [hF]; kernel_rfl)
                  · exact Reg.doesV_skip (by rw [hF]; kernel_rfl) (by rw [hF]; kernel_rfl)
                  · exact Reg.doesV_skip (by rw [hF]; kernel_rfl) (by rw [hF]; kernel_rfl)
                  · exact Reg.doesV_skip (by rw [hF]; kernel_rfl) (by rw [hF]; kernel_rfl)
                  · exact Reg.doesV_skip (by rw [hF]; kernel_rfl) (by rw [hF]; kernel_rfl)
                  · exact Reg.doesV_skip (by rw [hF]; kernel_rfl) (by rw [hF]; kernel_rfl)
                  · exact Reg.doesV_skip (by rw [hF]; kernel_rfl) (by rw [hF]; kernel_rfl)
                  · exact Reg.doesV_skip (by rw [hF]; kernel_rfl) (by rw [hF]; kernel_rfl)
                  · exact Reg.doesV_val (ev_pick false rfl (by rw [hF]; kernel_rfl)) (by rw [hF]; kernel_rfl) (by rw [hF]; kernel_rfl)
                intro w8 hc
                simp only [Reg.putAll, Act.put, List.setIfInBounds_toArray, List.set_cons_zero, List.set_cons_succ]
                have Hl8 : Hid (Sl w8 A ls) := Hl7.out.after hc
                have Hm8 : Hid (Mx w8 m) := Hm7.out.after hc
                have Ba8 : Hid (Bx w8 b7 x) := Ba7.out.after hc
                have Bb8 : Hid (Bx w8 b8 y) := Bb7.out.after hc
                have hb8 := hb7.trans (hc.mono hb7.size)
                clear hc hb7 Hl7 Hm7 Ba7 Bb7
                have hle := Hle.out
                have dle : decide (ek.size ≤ el.size) = true := decide_eq_true hle
                have hpre := Hpre.out
                clear hxy dxy
                have hks : el.size ≤ 1000000 := by rw [El.out]; exact enc_smallL ls L1.out.2 L1.out.1
                go_wp2
                go_ret
                exact ⟨rfl, hb8⟩
end Go.Proofs.YtkbgcgkblbbcbaaDoor
