/-
  A bag's text, as the program has it: of bags of at most 90 rows, of at most 200 values of short texts.
-/
import Derived.Test.YthgoflaphbigbaaGreatDoorMay5
import Derived.Test.YthgoflaphbigbaaGreatDoorTextR
import Derived.Test.YthgoflaphbigbaaGreatDoorTextD5
import Derived.Test.YthgoflaphbigbaaGreatDoorAddP
import Derived.Test.YthgoflaphbigbaaGreatDoorPlusD5
import Derived.Test.YthgoflaphbigbaaGreatDoorRegL
namespace Go.Proofs.YthgoflaphbigbaaGreatDoor
open Go Go.RowKit
set_option maxRecDepth 100000

theorem sjoinB_c (g n c : Nat) (l : List (List UInt8)) (w : World) (hM : Mk w g 1 n rdS l) (hn : l.length = n) (hc : n ≤ c) (hlen : (Lib.join l [32]).length ≤ 100000000) (hn2 : n ≤ 1000) :
    Calls Tryz.prog 41 #[.slice (some ⟨g, 0, none⟩) n c, .string ⟨#[32]⟩] w fun e w' => e = .returned (.string ⟨(Lib.join l [32]).toArray⟩) ∧ Below w.heap.size w w' := by
  have e1 : ((l.map fun t => (⟨t.toArray⟩ : ByteArray)).map (·.data.toList)) = l := by
    rw [List.map_map]
    exact List.map_id'' (fun _ => rfl) l
  have h := Tryz.strings_Join g 0 c (l.map fun t => (⟨t.toArray⟩ : ByteArray)) ⟨#[32]⟩ w (fun j x hx => ?_) hM.lt (by rw [List.length_map]; omega) (by rw [List.length_map]; omega) (by rw [e1]; exact Nat.le_trans hlen (by decide))
  · rw [e1, List.length_map, hn] at h
    exact h
  · rw [List.getElem?_map] at hx
    cases hl : l[j]? with
    | none => rw [hl] at hx; cases hx
    | some t =>
      rw [hl] at hx
      simp at hx
      subst hx
      have := hM.at' j t hl 0 _ rfl
      rw [Nat.mul_one, Nat.add_zero] at this
      rw [Nat.zero_add]
      exact this
theorem ev_idxS {F : Act} {w : World} {t u : Tmp} {b n c k : Nat} {o : Oper} (hk : k < n) (ho : o.op = .indexAddr 58 (.tmp t) (.tmp u)) (ht : Reg.slot F t = .slice (some ⟨b, 0, none⟩) n c) (hu : Reg.slot F u = .int .i64 k) :
    (execOp F.eval o).run Tryz.prog w = .ok (.value (.pointer (some ⟨b, k, none⟩))) w := by
  have e1 : F.eval (.tmp t) = .slice (some ⟨b, 0, none⟩) n c := ht
  have e2 : F.eval (.tmp u) = .int .i64 k := hu
  have e0 : (execOp F.eval o).run Tryz.prog w = ((Instr.indexAt 58 (.slice (some ⟨b, 0, none⟩) n c) (.int .i64 k)).run Tryz.prog w).andThen fun v w' => .ok (.value v) w' := by
    simp only [execOp, ho, e1, e2, Sem.run_bind, Sem.run_pure]
  rw [e0]
  go_simp
theorem ev_ldS {F : Act} {w : World} {b off : Nat} {X : ByteArray} {t : Tmp} {o : Oper} (h0 : w.cell? ⟨b, off, none⟩ = some (.string X)) (ho : o.op = .load 9 (.tmp t)) (ht : Reg.slot F t = .pointer (some ⟨b, off, none⟩)) :
    (execOp F.eval o).run Tryz.prog w = .ok (.value (.string X)) w := by
  have e : F.eval (.tmp t) = .pointer (some ⟨b, off, none⟩) := ht
  have e0 : (execOp F.eval o).run Tryz.prog w = ((Instr.loadAt 9 (.pointer (some ⟨b, off, none⟩))).run Tryz.prog w).andThen fun v w' => .ok (.value v) w' := by
    simp only [execOp, ho, e, Sem.run_bind, Sem.run_pure]
  rw [e0]
  go_simp
theorem ev_catC {F : Act} {w : World} {x y r : ByteArray} {t : Tmp} {o : Oper} (hc : (Op.stringOp .add x y).run Tryz.prog w = .ok (.string r) w) (ho : o.op = .binOp .add 9 (.const (.string x)) (.tmp t) 9) (ht : Reg.slot F t = .string y) :
    (execOp F.eval o).run Tryz.prog w = .ok (.value (.string r)) w := by
  have e1 : F.eval (.tmp t) = .string y := ht
  have e2 : F.eval (.const (.string x)) = .string x := rfl
  have e0 : (execOp F.eval o).run Tryz.prog w = ((do eqGuard .add 9 (.const (.string x)) (.tmp t) (.string x) (.string y); binOp .add 9 (.string x) (.string y)).run Tryz.prog w).andThen fun v w' => .ok (.value v) w' := by
    simp only [execOp, ho, e1, e2, Sem.run_bind, Sem.run_pure]
  rw [e0]
  go_simp
theorem ev_catT {F : Act} {w : World} {x y r : ByteArray} {t u : Tmp} {o : Oper} (hc : (Op.stringOp .add x y).run Tryz.prog w = .ok (.string r) w) (ho : o.op = .binOp .add 9 (.tmp t) (.tmp u) 9) (ht : Reg.slot F t = .string x) (hu : Reg.slot F u = .string y) :
    (execOp F.eval o).run Tryz.prog w = .ok (.value (.string r)) w := by
  have e1 : F.eval (.tmp t) = .string x := ht
  have e2 : F.eval (.tmp u) = .string y := hu
  have e0 : (execOp F.eval o).run Tryz.prog w = ((do eqGuard .add 9 (.tmp t) (.tmp u) (.string x) (.string y); binOp .add 9 (.string x) (.string y)).run Tryz.prog w).andThen fun v w' => .ok (.value v) w' := by
    simp only [execOp, ho, e1, e2, Sem.run_bind, Sem.run_pure]
  rw [e0]
  go_simp
theorem ev_storeS {F : Act} {w : World} {b k : Nat} {X : ByteArray} {u0 : Value} {t u : Tmp} {o : Oper} (h0 : w.cell? ⟨b, k, none⟩ = some u0) (hz : w.frozen? ⟨b, k, none⟩ = false) (ho : o.op = .store 9 (.tmp t) (.tmp u)) (ht : Reg.slot F t = .pointer (some ⟨b, k, none⟩)) (hu : Reg.slot F u = .string X) :
    (execOp F.eval o).run Tryz.prog w = .ok .skip (w.setCell ⟨b, k, none⟩ (.string X)) := by
  have e1 : F.eval (.tmp t) = .pointer (some ⟨b, k, none⟩) := ht
  have e2 : F.eval (.tmp u) = .string X := hu
  have e0 : (execOp F.eval o).run Tryz.prog w = ((Instr.storeAt 9 (.pointer (some ⟨b, k, none⟩)) (.string X)).run Tryz.prog w).andThen fun _ w' => .ok .skip w' := by
    simp only [execOp, ho, e1, e2, Sem.run_bind, Sem.run_pure]
  rw [e0]
  go_simp
theorem enItoa : ∀ args w, (callFunc 40 args).run Tryz.prog w = .ok (.enter 40 args) w := fun _ _ => by kernel_rfl
theorem Mk.touch {w : World} {g N : Nat} {l : List (List UInt8)} (h : Mk w g 1 N rdS l) (v : Value) (hlt : l.length < N) : Mk (w.setCell ⟨g, l.length, none⟩ v) g 1 N rdS l := by
  obtain ⟨u0, h0⟩ := h.all l.length (by omega)
  have same : (w.setCell ⟨g, l.length, none⟩ v).cell? ⟨g, l.length, none⟩ = some v := World.cell?_setCell_same _ _ _ h0
  have other : ∀ j, j ≠ l.length → (w.setCell ⟨g, l.length, none⟩ v).cell? ⟨g, j, none⟩ = w.cell? ⟨g, j, none⟩ := fun j hj => World.cell?_setCell_other _ _ _ _ (by intro e; simp only [Addr.mk.injEq] at e; exact hj e.2.1.symm)
  refine ⟨by simpa using h.lt, fun j hj => ?_, fun j => by rw [World.frozen?_setCell]; exact h.thaw j, fun i y hy j u hu => ?_⟩
  · by_cases e : j = l.length
    · subst e; exact ⟨v, same⟩
    · rw [other j e]; exact h.all j hj
  · have hi := (List.getElem?_eq_some_iff.1 hy).1
    have hj : j < 1 := (List.getElem?_eq_some_iff.1 hu).1
    rw [other _ (by omega)]
    exact h.at' i y hy j u hu
theorem itoa_len5 (N : Int) (h : -1000000000 ≤ N ∧ N ≤ 1000000000) : (Lib.itoa N).length ≤ 5000 := by
  have := text_len ⟨2, N, emp⟩ (by simp only []; omega) (by show (0 : Nat) ≤ 2000; omega)
  simpa [textL] using this
theorem cntT_ne {N : Int} (h : (N != 1) = true) : cntT N = 42 :: Lib.itoa N := by
  unfold cntT
  rw [if_neg]
  simpa using h
theorem cntT_one {N : Int} (h : (N != 1) = false) : cntT N = [] := by
  unfold cntT
  rw [if_pos]
  simpa using h
theorem bagT_len (b : Bg) (h : ∀ x ∈ b, (entT x).length ≤ 1010000) (hn : b.length ≤ 90) : (bagT b).length ≤ 100000000 := by
  have key : ∀ k, k ≤ b.length → (bagT (b.take k)).length ≤ k * 1010001 := by
    intro k
    induction k with
    | zero => intro _; simp [bagT, Lib.join_nil]
    | succ k ih =>
      intro hk
      have hx : b[k]? = some (b[k]'(by omega)) := List.getElem?_eq_getElem _
      have h1 := ih (by omega)
      have h2 := h _ (List.mem_of_getElem? hx)
      rw [bagT_next b k _ hx, List.length_append, List.length_append]
      have : (if k = 0 then ([] : List UInt8) else [32]).length ≤ 1 := by split <;> simp
      omega
  have := key b.length (Nat.le_refl _)
  rw [List.take_of_length_le (Nat.le_refl _)] at this
  omega
set_option maxHeartbeats 4000000 in
theorem textB_c (A : Option Addr) (n c : Nat) (cs : List Ct) (w : World) (hB : BgIn w A n cs) (hn : n ≤ 90) (hz : ∀ c ∈ cs, c.h.n ≤ 200 ∧ ∀ x ∈ c.h.xs, x.s.size ≤ 2000) (hG : Gl w) :
    Calls Tryz.prog 16 #[.slice A n c] w fun e w' => e = .returned (.string ⟨(bagTR (pl cs)).toArray⟩) ∧ Below w.heap.size w w' := by
  obtain ⟨cells, hcs, hmk⟩ := make_run sOk n (by omega) (by unfold maxLen; omega)
  obtain ⟨R, hR⟩ : ∃ R, bagTR (pl cs) = R := ⟨_, rfl⟩
  rw [hR]
  have HR := Lib.hid hR
  have HB := Lib.hid hB
  have Hz := Lib.hid hz
  have HG := Lib.hid hG
  have Hcs := Lib.hid hcs
  have HM := Lib.hid (mayBag_c A n c cs w hB)
  clear hB hcs hz hG hR
  go_enter Tryz.func16, Tryz.ntmps16
  go_wp2_with fail
  refine HM.out.mono ?_
  rintro e w1 ⟨rfl, hb1⟩
  have Hb1 := Lib.hid hb1
  clear hb1 HM
  cases hM : mayBag (pl cs)
  · obtain rfl : R = [] := by rw [← HR.out]; unfold bagTR; rw [hM]; rfl
    clear hmk Hcs HR
    go_wp2
    go_ret
    exact ⟨rfl, Hb1.out⟩
  · have HR2 : Hid (bagT (pl cs) = R) := Lib.hid (by rw [← HR.out]; unfold bagTR; rw [hM]; rfl)
    have HMy := Lib.hid hM
    clear hM HR
    go_wp2_with fail
    have Hmk : Hid (Mk (w1.alloc (.cells cells 9)) w1.heap.size 1 n rdS []) := Mk.new w1 cells _ (by rw [Hcs.out])
    have Hb2 : Hid (Below w.heap.size w (w1.alloc (.cells cells 9))) := Lib.hid (below_al Hb1.out _)
    have hg1 := Hb1.out.size
    clear hmk Hcs
    go_loopw [14] (fun i wr => ∃ k : Nat, k ≤ n ∧ i = .int .i64 k ∧ Hid (Below w.heap.size w wr) ∧ Hid (Mk wr w1.heap.size 1 n rdS (((pl cs).take k).map entT))) (fun i _ => n - (intOf i).toNat)
    case atStart => exact ⟨0, Nat.zero_le _, rfl, Hb2, Hmk⟩
    case round =>
      obtain ⟨k, hk, rfl, hb, hK⟩ := hrel
      clear Hmk Hb2
      by_cases hlt : k < n
      · obtain ⟨b, off, x, rfl, hblt, hx, c0, c1⟩ := HB.out.sl.at2 (k := k) (by rw [HB.out.len]; exact hlt)
        have d0 := (hb.out.cell (p := ⟨b, off + k * 2, none⟩) hblt).trans c0
        have d1 := (hb.out.cell (p := ⟨b, off + k * 2 + 1, none⟩) hblt).trans c1
        have l0 : b < wr.heap.size := Nat.lt_of_lt_of_le hblt hb.out.size
        have hmem := List.mem_of_getElem? hx
        have Hq := Lib.hid (bd_may HMy.out _ (pl_mem hmem))
        have Hx := Lib.hid ((HB.out.each x hmem).after hb.out)
        have Hzx := Lib.hid (Hz.out x hmem)
        have Htk : Hid (((pl cs).take k).map entT ++ [entT (x.h.xs, x.N)] = ((pl cs).take (k + 1)).map entT) := Lib.hid (by rw [List.take_add_one, pl_at hx, List.map_append]; rfl)
        have Hlk : Hid ((((pl cs).take k).map entT).length = k) := Lib.hid (by rw [List.length_map, List.length_take, pl_len, HB.out.len]; omega)
        clear c0 c1 hx hmem hblt
        obtain ⟨⟨xA, xn, xc, xs⟩, N⟩ := x
        simp only [] at d0 d1
        have hgo : (k : Int) < n := by omega
        have Hbw := Lib.hid (below_one wr (.cells #[.slice xA xn xc, .int .i64 N] 36))
        have HT := Lib.hid (rtext_c xA xn xc xs (wr.alloc (.cells #[.slice xA xn xc, .int .i64 N] 36)) (Hx.out.after Hbw.out).hd.len Hzx.out.1 (Hx.out.after Hbw.out).hd.sl Hx.out.n64 Hzx.out.2 (HG.out.after (below_via hb.out Hbw.out)))
        go_wp2_with fail
        refine HT.out.mono ?_
        rintro e w2 ⟨rfl, hb2⟩
        have Hbr := Lib.hid (below_via Hbw.out hb2)
        have hK2 := hK.out.after Hbr.out hK.out.lt
        have lgN := hK.out.lt
        obtain ⟨u0, f0⟩ := hK2.all k (by omega)
        have z0 := hK2.thaw k
        have Hrl : Hid ((rowT xs).length ≤ 1000500) := Lib.hid (rowT_len xs Hx.out.n64 Hzx.out.2 (by rw [Hx.out.hd.len]; exact Hzx.out.1))
        have e1 : w2.cell? ⟨wr.heap.size, 1, none⟩ = some (.int .i64 N) := (hb2.cell (p := ⟨wr.heap.size, 1, none⟩) (by simp)).trans (by simp)
        have lbx : wr.heap.size < w2.heap.size := Nat.lt_of_lt_of_le (by simp) hb2.size
        have hne0 : w1.heap.size ≠ wr.heap.size := Nat.ne_of_lt lgN
        have Hb3 := Lib.hid ((below_via hb.out Hbr.out).setCell (p := ⟨w1.heap.size, k, none⟩) hg1 (.string ⟨(rowT xs).toArray⟩))
        have e3 : (w2.setCell ⟨w1.heap.size, k, none⟩ (.string ⟨(rowT xs).toArray⟩)).cell? ⟨wr.heap.size, 1, none⟩ = some (.int .i64 N) := (World.cell?_setCell_other _ _ _ _ (by intro e; simp only [Addr.mk.injEq] at e; exact hne0 e.1)).trans e1
        have hset := hK2.set1 sOk.len (rowT xs) (.string ⟨(rowT xs).toArray⟩) rfl (by rw [Hlk.out]; exact hlt)
        have htch := hK2.touch (.string ⟨(rowT xs).toArray⟩) (by rw [Hlk.out]; exact hlt)
        rw [Hlk.out] at hset htch
        have Hset := Lib.hid hset
        have Htch := Lib.hid htch
        have E3 := Lib.hid e3
        have Hlx : Hid (wr.heap.size < (w2.setCell ⟨w1.heap.size, k, none⟩ (.string ⟨(rowT xs).toArray⟩)).heap.size) := Lib.hid (by simpa using lbx)
        have Hn0 := Lib.hid hne0
        clear hset htch e3 hK2 hb2 hb HT hK d0 d1 hne0
        obtain ⟨w3, hw3⟩ : ∃ w3, w2.setCell ⟨w1.heap.size, k, none⟩ (.string ⟨(rowT xs).toArray⟩) = w3 := ⟨_, rfl⟩
        rw [hw3] at Hb3 Hset Htch E3 Hlx
        cases hN1 : N != 1
        · have HF : Hid (Mk w3 w1.heap.size 1 n rdS (((pl cs).take (k + 1)).map entT)) := Lib.hid (by
            rw [← Htk.out]
            have e : entT (xs, N) = rowT xs := by unfold entT; simp only [cntT_one hN1, List.append_nil]
            simp only [e]
            exact Hset.out)
          have E3v := E3.out
          clear Hset Htch Htk
          go_wp2_with fail
          go_roundw
          case rel => exact ⟨k + 1, by omega, by go_num, Hb3, HF⟩
          case measure => simp [intOf]; omega
        · have E3v := E3.out
          have p0 : w3.cell? ⟨w1.heap.size, k, none⟩ = some (.string ⟨(rowT xs).toArray⟩) := by
            have := Hset.out.at' k (rowT xs) (by rw [List.getElem?_append_right (by rw [Hlk.out]; exact Nat.le_refl _), Hlk.out, Nat.sub_self]; rfl) 0 _ rfl
            rwa [Nat.mul_one, Nat.add_zero] at this
          have P0 := Lib.hid p0
          have hil := itoa_len5 N Hq.out
          have c1 : ∀ w, (Op.stringOp .add ⟨#[42]⟩ ⟨(Lib.itoa N).toArray⟩).run Tryz.prog w = .ok (.string ⟨([42] ++ Lib.itoa N).toArray⟩) w := fun w => cat_run w [42] (Lib.itoa N) (by simp only [List.length_cons, List.length_nil]; omega)
          have c2 : ∀ w, (Op.stringOp .add ⟨(rowT xs).toArray⟩ ⟨([42] ++ Lib.itoa N).toArray⟩).run Tryz.prog w = .ok (.string ⟨(rowT xs ++ ([42] ++ Lib.itoa N)).toArray⟩) w := fun w => cat_run w (rowT xs) ([42] ++ Lib.itoa N) (by have := Hrl.out; simp only [List.length_append, List.length_cons, List.length_nil]; omega)
          have Hent : Hid (entT (xs, N) = rowT xs ++ ([42] ++ Lib.itoa N)) := Lib.hid (by unfold entT; simp only [cntT_ne hN1]; rfl)
          have HI : Hid (∀ W, Below w.heap.size w W → Calls Tryz.prog 40 #[.int .i64 N] W fun e w' => e = .returned (.string ⟨(Lib.itoa N).toArray⟩) ∧ Below W.heap.size W w') := Lib.hid fun W hW => by
            have hq : -1000000000 ≤ N ∧ N ≤ 1000000000 := Hq.out
            refine (Tryz.strconv_Itoa N (by omega) (by omega) W (HG.out.after hW).tab).mono ?_
            rintro e w' ⟨rfl, k, os, hw1⟩
            exact ⟨rfl, by rw [hw1]; exact below_grow _ k os⟩
          have zz := Htch.out.thaw k
          clear p0 Hrl hil Hset
          obtain ⟨X1, hX1⟩ : ∃ X1 : ByteArray, ⟨(rowT xs).toArray⟩ = X1 := ⟨_, rfl⟩
          obtain ⟨X2, hX2⟩ : ∃ X2 : ByteArray, ⟨(Lib.itoa N).toArray⟩ = X2 := ⟨_, rfl⟩
          obtain ⟨X3, hX3⟩ : ∃ X3 : ByteArray, ⟨([42] ++ Lib.itoa N).toArray⟩ = X3 := ⟨_, rfl⟩
          obtain ⟨X4, hX4⟩ : ∃ X4 : ByteArray, ⟨(rowT xs ++ ([42] ++ Lib.itoa N)).toArray⟩ = X4 := ⟨_, rfl⟩
          rw [hX1] at c2 P0 hw3
          rw [hX2] at c1 HI
          rw [hX3] at c1 c2
          rw [hX4] at c2
          have HX4 := Lib.hid hX4
          rw [hX1]
          clear hX1 hX2 hX3 hX4
          have p0 := P0.out
          go_wp2_with fail
          have hl3 : w1.heap.size < w3.heap.size := Htch.out.lt
          clear p0
          refine RegS.wp_region_last mixed (by kernel_rfl) 10 (of_decide_eq_true (by kernel_rfl)) (by kernel_rfl) [(28, .slice (some ⟨w1.heap.size, 0, none⟩) n n), (29, .int .i64 (k : Nat)), (30, .pointer (some ⟨w1.heap.size, k, none⟩)), (31, .string X1), (32, .pointer (some ⟨wr.heap.size, 1, none⟩)), (33, .int .i64 N), (34, .string X2), (35, .string X3), (36, .string X4), (37, .pointer (some ⟨w1.heap.size, k, none⟩))] 41 rfl (by kernel_rfl) (fun w'' => ∃ w', Below w3.heap.size w3 w' ∧ w'' = w'.setCell ⟨w1.heap.size, k, none⟩ (.string X4)) ?_ ?_
          · intro F hF w' hB
            have j0 := (hB.cell (p := ⟨w1.heap.size, k, none⟩) hl3).trans P0.out
            have j1 := (hB.cell (p := ⟨wr.heap.size, 1, none⟩) Hlx.out).trans E3.out
            have jz := (hB.frozen (p := ⟨w1.heap.size, k, none⟩) hl3).trans zz
            refine ⟨?_, ?_, ?_, ?_, ?_, ?_, ?_, ?_, ?_, ?_, ?_, trivial⟩
            · exact RegS.doesL_of (by decide) (Reg.doesV_val (ev_move rfl) (by rw [hF]; kernel_rfl) (by rw [hF]; kernel_rfl))
            · exact RegS.doesL_of (by decide) (Reg.doesV_val (ev_move rfl) (by rw [hF]; kernel_rfl) (by rw [hF]; kernel_rfl))
            · exact RegS.doesL_of (by decide) (Reg.doesV_val (ev_idxS (b := w1.heap.size) (n := n) (c := n) (k := k) hlt rfl (by rw [hF]; kernel_rfl) (by rw [hF]; kernel_rfl)) (by rw [hF]; kernel_rfl) (by rw [hF]; kernel_rfl))
            · exact RegS.doesL_of (by decide) (Reg.doesV_val (ev_ldS (X := X1) j0 rfl (by rw [hF]; kernel_rfl)) (by rw [hF]; kernel_rfl) (by rw [hF]; kernel_rfl))
            · exact RegS.doesL_of (by decide) (Reg.doesV_val (ev_c1 (b := wr.heap.size) (off := 0) rfl (by rw [hF]; kernel_rfl)) (by rw [hF]; kernel_rfl) (by rw [hF]; kernel_rfl))
            · exact RegS.doesL_of (by decide) (Reg.doesV_val (ev_ldI (k := N) j1 rfl (by rw [hF]; kernel_rfl)) (by rw [hF]; kernel_rfl) (by rw [hF]; kernel_rfl))
            · exact RegS.doesL_of (by decide) (Reg.doesV_call (HI.out w' (Hb3.out.trans (hB.mono Hb3.out.size))) (ev_call enItoa rfl (by rw [hF]; kernel_rfl)) (by rw [hF]; kernel_rfl) (by rw [hF]; kernel_rfl))
            · exact RegS.doesL_of (by decide) (Reg.doesV_val (ev_catC (c1 w') rfl (by rw [hF]; kernel_rfl)) (by rw [hF]; kernel_rfl) (by rw [hF]; kernel_rfl))
            · exact RegS.doesL_of (by decide) (Reg.doesV_val (ev_catT (c2 w') rfl (by rw [hF]; kernel_rfl) (by rw [hF]; kernel_rfl)) (by rw [hF]; kernel_rfl) (by rw [hF]; kernel_rfl))
            · exact RegS.doesL_of (by decide) (Reg.doesV_val (ev_idxS (b := w1.heap.size) (n := n) (c := n) (k := k) hlt rfl (by rw [hF]; kernel_rfl) (by rw [hF]; kernel_rfl)) (by rw [hF]; kernel_rfl) (by rw [hF]; kernel_rfl))
            · exact RegS.doesL_last rfl (by rw [hF]; kernel_rfl) rfl (ev_storeS j0 jz rfl (by rw [hF]; kernel_rfl) (by rw [hF]; kernel_rfl)) ⟨w', hB, rfl⟩
          · rintro w5 ⟨w4, hb4, rfl⟩
            simp only [Reg.putAll, Act.put, List.setIfInBounds_toArray, List.set_cons_zero, List.set_cons_succ]
            have Hb5 := Lib.hid ((Hb3.out.trans (hb4.mono Hb3.out.size)).setCell (p := ⟨w1.heap.size, k, none⟩) hg1 (.string X4))
            have HF : Hid (Mk (w4.setCell ⟨w1.heap.size, k, none⟩ (.string X4)) w1.heap.size 1 n rdS (((pl cs).take (k + 1)).map entT)) := Lib.hid (by
              have h1 := (Htch.out.after hb4 Htch.out.lt).set1 sOk.len (entT (xs, N)) (.string X4) (by rw [← HX4.out]; show [Value.string ⟨(entT (xs, N)).toArray⟩] = _; rw [Hent.out]) (by rw [Hlk.out]; exact hlt)
              rw [Hlk.out, Htk.out] at h1
              exact h1)
            clear hb4
            go_wp2
            go_roundw
            case rel => exact ⟨k + 1, by omega, by go_num, Hb5, HF⟩
            case measure => simp [intOf]; omega
      · obtain rfl : k = n := by omega
        have hM2 := hK.out
        rw [show (pl cs).take k = pl cs from List.take_of_length_le (by rw [pl_len, HB.out.len]; exact Nat.le_refl _)] at hM2
        have hlen : (bagT (pl cs)).length ≤ 100000000 := bagT_len _ (fun y hy => by
          obtain ⟨x, hx, rfl⟩ := List.mem_map.1 hy
          have h1 := rowT_len x.h.xs (HB.out.each x hx).n64 (Hz.out x hx).2 (by rw [(HB.out.each x hx).hd.len]; exact (Hz.out x hx).1)
          have h2 := itoa_len5 x.N (bd_may HMy.out _ (pl_mem hx))
          unfold entT cntT
          simp only [List.length_append]
          split
          · simp only [List.length_nil]; omega
          · simp only [List.length_cons]; omega) (by rw [pl_len, HB.out.len]; exact hn)
        have Hj := Lib.hid (sjoinB_c w1.heap.size k k ((pl cs).map entT) wr hM2 (by rw [List.length_map, pl_len, HB.out.len]) (Nat.le_refl _) hlen (by omega))
        have hR3 : Lib.join ((pl cs).map entT) [32] = R := HR2.out
        rw [hR3] at Hj
        clear hM2 hK hlen hR3 HR2
        go_wp2_with fail
        refine Hj.out.mono ?_
        rintro en w4 ⟨rfl, hb4⟩
        have Hb4 := Lib.hid (below_via hb.out hb4)
        clear hb4 hb Hj
        go_wp2
        go_ret
        exact ⟨rfl, Hb4.out⟩
end Go.Proofs.YthgoflaphbigbaaGreatDoor
