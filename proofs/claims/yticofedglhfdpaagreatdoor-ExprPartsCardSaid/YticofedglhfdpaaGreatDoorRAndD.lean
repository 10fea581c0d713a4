/-
  And and Or of any list of values as the document has them, and that they are the program's.
-/
import Derived.Test.YticofedglhfdpaaGreatDoorComp
import Derived.Test.YticofedglhfdpaaGreatDoorRNot
namespace Go.Proofs.YticofedglhfdpaaGreatDoor
open Go Go.RowKit
set_option maxRecDepth 100000

theorem ev_index {F : Act} {w : World} {t u : Tmp} {b off n c k : Nat} {o : Oper} (hk : k < n) (ho : o.op = .indexAddr 24 (.tmp t) (.tmp u)) (ht : Reg.slot F t = .slice (some ⟨b, off, none⟩) n c) (hu : Reg.slot F u = .int .i64 k) :
    (execOp F.eval o).run Tryz.prog w = .ok (.value (.pointer (some ⟨b, off + k * 3, none⟩))) w := by
  have e1 : F.eval (.tmp t) = .slice (some ⟨b, off, none⟩) n c := ht
  have e2 : F.eval (.tmp u) = .int .i64 k := hu
  have e0 : (execOp F.eval o).run Tryz.prog w = ((Instr.indexAt 24 (.slice (some ⟨b, off, none⟩) n c) (.int .i64 k)).run Tryz.prog w).andThen fun v w' => .ok (.value v) w' := by
    simp only [execOp, ho, e1, e2, Sem.run_bind, Sem.run_pure]
  rw [e0]
  go_simp
/-- What the document's And (or Or) comes to. -/
def ra (strong weak : Val) : Bool → List Val → Val
  | all, [] => if all then weak else nl
  | all, v :: r => if v.eq strong then strong else ra strong weak (all && v.eq weak) r
theorem ra_drop (strong weak : Val) (all : Bool) (vs : List Val) (k : Nat) (v : Val) (h : vs[k]? = some v) :
    ra strong weak all (vs.drop k) = if v.eq strong then strong else ra strong weak (all && v.eq weak) (vs.drop (k + 1)) := by
  have hlt : k < vs.length := (List.getElem?_eq_some_iff.1 h).1
  have hv : vs[k] = v := (List.getElem?_eq_some_iff.1 h).2
  rw [List.drop_eq_getElem_cons hlt, hv, ra]
theorem ra_dec (strong weak : Val) : ∀ (vs : List Val) (all : Bool), ra strong weak all vs = dec strong weak (if all then weak else nl) vs
  | [], all => rfl
  | v :: r, all => by
    rw [ra, dec]
    cases v.eq strong
    · rw [if_neg (by simp), if_neg (by simp), ra_dec strong weak r]
      cases all <;> cases v.eq weak <;> rfl
    · rfl

set_option maxHeartbeats 600000 in
theorem rand_some (b off n c : Nat) (vs : List Val) (w : World) (hn : vs.length = n) (hmax : n ≤ maxLen) (hlt : b < w.heap.size)
    (hs : ∀ i (a : Val), vs[i]? = some a → w.cell? ⟨b, off + i * 3, none⟩ = some (.int .i64 a.k) ∧ w.cell? ⟨b, off + i * 3 + 1, none⟩ = some (.int .i64 a.n) ∧ w.cell? ⟨b, off + i * 3 + 2, none⟩ = some (.string a.s)) :
    Calls Tryz.prog 32 #[.slice (some ⟨b, off, none⟩) n c] w fun e w' => e = .returned (ra ff tt true vs).v ∧ Below w.heap.size w w' := by
  unfold maxLen at hmax
  have Hn := Lib.hid hn
  have Hs := Lib.hid hs
  clear hn hs
  go_enter Tryz.func32, Tryz.ntmps32
  go_wp2_with fail
  go_loopw [3, 4] (fun x i wr => ∃ (k : Nat) (all : Bool), k ≤ n ∧ x = .bool all ∧ i = .int .i64 k ∧ Bx wr w.heap.size nl ∧ Below w.heap.size w wr ∧ Hid (ra ff tt all (vs.drop k) = ra ff tt true vs))
    (fun _ i _ => n - (intOf i).toNat)
  case atStart => exact ⟨0, true, Nat.zero_le _, rfl, rfl, Bx.new w nl, below_one _ _, rfl⟩
  case round =>
    obtain ⟨k, all, hk, rfl, rfl, br, hbr, hinv⟩ := hrel
    by_cases hlt' : k < n
    · obtain ⟨v, hv⟩ : ∃ v, vs[k]? = some v := ⟨vs[k]'(by rw [Hn.out]; exact hlt'), List.getElem?_eq_getElem _⟩
      obtain ⟨c0, c1, c2⟩ := Hs.out k v hv
      have d0 : Hid (wr.cell? ⟨b, off + k * 3, none⟩ = some (.int .i64 v.k)) := (hbr.cell (p := ⟨b, off + k * 3, none⟩) hlt).trans c0
      have d1 : Hid (wr.cell? ⟨b, off + k * 3 + 1, none⟩ = some (.int .i64 v.n)) := (hbr.cell (p := ⟨b, off + k * 3 + 1, none⟩) hlt).trans c1
      have d2 : Hid (wr.cell? ⟨b, off + k * 3 + 2, none⟩ = some (.string v.s)) := (hbr.cell (p := ⟨b, off + k * 3 + 2, none⟩) hlt).trans c2
      have hbl : b < wr.heap.size := Nat.lt_of_lt_of_le hlt hbr.size
      have Hv := Lib.hid hv
      clear c0 c1 c2 hv
      have hstep := ra_drop ff tt all vs k v Hv.out
      obtain ⟨es, hes⟩ : ∃ es, v.eq ff = es := ⟨_, rfl⟩
      obtain ⟨ew, hew⟩ : ∃ ew, v.eq tt = ew := ⟨_, rfl⟩
      rw [hes, hew] at hstep
      have Hes := Lib.hid hes
      have Hew := Lib.hid hew
      have Hst := Lib.hid hstep
      clear hstep hes hew
      go_wp2_with fail
      refine Reg.wp_region_vals mixed (by kernel_rfl) [(11, .slice (some ⟨b, off, none⟩) n c), (12, .int .i64 k), (13, .pointer (some ⟨b, off + k * 3, none⟩)), (14, v.v), (15, ff.v), (16, .bool es)] 30 rfl (by kernel_rfl) ?_ ?_
      · intro F hF w' hB
        have e0 := (hB.cell (p := ⟨b, off + k * 3, none⟩) hbl).trans d0.out
        have e1 := (hB.cell (p := ⟨b, off + k * 3 + 1, none⟩) hbl).trans d1.out
        have e2 := (hB.cell (p := ⟨b, off + k * 3 + 2, none⟩) hbl).trans d2.out
        refine ⟨?_, ?_, ?_, ?_, ?_, ?_, trivial⟩
        · exact Reg.doesV_val (ev_move rfl) (by rw [hF]; kernel_rfl) (by rw [hF]; kernel_rfl)
        · exact Reg.doesV_val (ev_move rfl) (by rw [hF]; kernel_rfl) (by rw [hF]; kernel_rfl)
        · exact Reg.doesV_val (ev_index (b := b) (off := off) (c := c) hlt' rfl (by rw [hF]; kernel_rfl) (by rw [hF]; kernel_rfl)) (by rw [hF]; kernel_rfl) (by rw [hF]; kernel_rfl)
        · exact Reg.doesV_val (ev_load3 e0 e1 e2 rfl (by rw [hF]; kernel_rfl)) (by rw [hF]; kernel_rfl) (by rw [hF]; kernel_rfl)
        · exact Reg.doesV_call (rtruth_c false w') (ev_call enrTruth rfl (by rw [hF]; kernel_rfl)) (by rw [hF]; kernel_rfl) (by rw [hF]; kernel_rfl)
        · exact Reg.doesV_val (by rw [ev_eq v ff rfl (by rw [hF]; kernel_rfl) (by rw [hF]; kernel_rfl), Hes.out]) (by rw [hF]; kernel_rfl) (by rw [hF]; kernel_rfl)
      · intro w2 hB
        simp only [Reg.putAll, Act.put, List.setIfInBounds_toArray, List.set_cons_zero, List.set_cons_succ]
        have hb2 := hbr.trans (hB.mono hbr.size)
        have br2 := br.after hB
        have hbl2 : b < w2.heap.size := Nat.lt_of_lt_of_le hbl hB.size
        have d0 : Hid (w2.cell? ⟨b, off + k * 3, none⟩ = some (.int .i64 v.k)) := (hB.cell (p := ⟨b, off + k * 3, none⟩) hbl).trans d0.out
        have d1 : Hid (w2.cell? ⟨b, off + k * 3 + 1, none⟩ = some (.int .i64 v.n)) := (hB.cell (p := ⟨b, off + k * 3 + 1, none⟩) hbl).trans d1.out
        have d2 : Hid (w2.cell? ⟨b, off + k * 3 + 2, none⟩ = some (.string v.s)) := (hB.cell (p := ⟨b, off + k * 3 + 2, none⟩) hbl).trans d2.out
        clear hB hbr br hbl
        cases es
        · go_wp2_with fail
          cases all
          · refine Reg.wp_region_late mixed (by kernel_rfl) [(18, .bool false), (19, .bool false), (20, undef), (21, undef), (22, undef), (23, undef), (24, undef), (25, undef), (26, .bool false)] [(3, .bool false)] (fun i => i == 0) 30 rfl (by kernel_rfl) ?_ ?_
            · intro E F hE hF w' hB
              refine ⟨?_, ?_, ?_, ?_, ?_, ?_, ?_, ?_, ?_, ?_, trivial⟩
              · exact Reg.doesV_val (ev_move rfl) (by rw [hE]; kernel_rfl) (by rw [hE, hF]; kernel_rfl)
              · exact Reg.doesV_val (ev_move rfl) (by rw [hF]; kernel_rfl) (by rw [hF]; kernel_rfl)
              · exact Reg.doesV_skip (by rw [hF]; kernel_rfl) (by rw [hF]; kernel_rfl)
              · exact Reg.doesV_skip (by rw [hF]; kernel_rfl) (by rw [hF]; kernel_rfl)
              · exact Reg.doesV_skip (by rw [hF]; kernel_rfl) (by rw [hF]; kernel_rfl)
              · exact Reg.doesV_skip (by rw [hF]; kernel_rfl) (by rw [hF]; kernel_rfl)
              · exact Reg.doesV_skip (by rw [hF]; kernel_rfl) (by rw [hF]; kernel_rfl)
              · exact Reg.doesV_skip (by rw [hF]; kernel_rfl) (by rw [hF]; kernel_rfl)
              · exact Reg.doesV_val (ev_pick false rfl (by rw [hF]; kernel_rfl)) (by rw [hF]; kernel_rfl) (by rw [hF]; kernel_rfl)
              · exact Reg.doesV_val (ev_assign rfl) (by rw [hF]; kernel_rfl) (by rw [hF]; kernel_rfl)
            · intro w3 hB
              simp only [List.cons_append, List.nil_append, Reg.putAll, Act.put, List.setIfInBounds_toArray, List.set_cons_zero, List.set_cons_succ]
              have hb3 := hb2.trans (hB.mono hb2.size)
              have br3 := br2.after hB
              clear hB hb2 br2 hbl2
              go_wp2
              go_roundw
              case rel => exact ⟨k + 1, false, by omega, rfl, by go_num, br3, hb3, Hst.out.symm.trans hinv.out⟩
              case measure => simp [intOf]; omega
          · refine Reg.wp_region_late mixed (by kernel_rfl) [(18, .bool true), (19, .bool true), (20, .slice (some ⟨b, off, none⟩) n c), (21, .int .i64 k), (22, .pointer (some ⟨b, off + k * 3, none⟩)), (23, v.v), (24, tt.v), (25, .bool ew), (26, .bool ew)] [(3, .bool ew)] (fun i => i == 0) 30 rfl (by kernel_rfl) ?_ ?_
            · intro E F hE hF w' hB
              have e0 := (hB.cell (p := ⟨b, off + k * 3, none⟩) hbl2).trans d0.out
              have e1 := (hB.cell (p := ⟨b, off + k * 3 + 1, none⟩) hbl2).trans d1.out
              have e2 := (hB.cell (p := ⟨b, off + k * 3 + 2, none⟩) hbl2).trans d2.out
              refine ⟨?_, ?_, ?_, ?_, ?_, ?_, ?_, ?_, ?_, ?_, trivial⟩
              · exact Reg.doesV_val (ev_move rfl) (by rw [hE]; kernel_rfl) (by rw [hE, hF]; kernel_rfl)
              · exact Reg.doesV_val (ev_move rfl) (by rw [hF]; kernel_rfl) (by rw [hF]; kernel_rfl)
              · exact Reg.doesV_val (ev_move rfl) (by rw [hF]; kernel_rfl) (by rw [hF]; kernel_rfl)
              · exact Reg.doesV_val (ev_move rfl) (by rw [hF]; kernel_rfl) (by rw [hF]; kernel_rfl)
              · exact Reg.doesV_val (ev_index (b := b) (off := off) (c := c) hlt' rfl (by rw [hF]; kernel_rfl) (by rw [hF]; kernel_rfl)) (by rw [hF]; kernel_rfl) (by rw [hF]; kernel_rfl)
              · exact Reg.doesV_val (ev_load3 e0 e1 e2 rfl (by rw [hF]; kernel_rfl)) (by rw [hF]; kernel_rfl) (by rw [hF]; kernel_rfl)
              · exact Reg.doesV_call (rtruth_c true w') (ev_call enrTruth rfl (by rw [hF]; kernel_rfl)) (by rw [hF]; kernel_rfl) (by rw [hF]; kernel_rfl)
              · exact Reg.doesV_val (by rw [ev_eq v tt rfl (by rw [hF]; kernel_rfl) (by rw [hF]; kernel_rfl), Hew.out]) (by rw [hF]; kernel_rfl) (by rw [hF]; kernel_rfl)
              · exact Reg.doesV_val (ev_pick true rfl (by rw [hF]; kernel_rfl)) (by rw [hF]; kernel_rfl) (by rw [hF]; kernel_rfl)
              · exact Reg.doesV_val (ev_assign rfl) (by rw [hF]; kernel_rfl) (by rw [hF]; kernel_rfl)
            · intro w3 hB
              simp only [List.cons_append, List.nil_append, Reg.putAll, Act.put, List.setIfInBounds_toArray, List.set_cons_zero, List.set_cons_succ]
              have hb3 := hb2.trans (hB.mono hb2.size)
              have br3 := br2.after hB
              clear hB hb2 br2 hbl2
              go_wp2
              go_roundw
              case rel => exact ⟨k + 1, ew, by omega, rfl, by go_num, br3, hb3, Hst.out.symm.trans hinv.out⟩
              case measure => simp [intOf]; omega
        · have Hfin := Lib.hid (Hst.out.symm.trans hinv.out)
          go_wp2_with fail
          refine (rtruth_c false _).mono ?_
          rintro e w3 ⟨rfl, hb3⟩
          have r3 := br2.after hb3
          have hbw := hb2.trans (hb3.mono hb2.size)
          clear hb3 br2 hb2
          have a0 := r3.cell0
          have a1 := r3.cell1
          have a2 := r3.cell2
          have f0 := r3.frozen 0
          have f1 := r3.frozen 1
          have f2 := r3.frozen 2
          go_wp2
          rw [put3_fold, ← Hfin.out]
          exact ret_val (a := ff) Tryz.results32 rfl (r3.put ff) rfl ⟨rfl, put3_below hbw (by omega) ff⟩
    · have hstep := hinv.out
      rw [List.drop_eq_nil_of_le (by rw [Hn.out]; omega)] at hstep
      have Hst := Lib.hid hstep
      clear hstep
      cases all
      · have a0 := br.cell0
        have a1 := br.cell1
        have a2 := br.cell2
        have f0 := br.frozen 0
        have f1 := br.frozen 1
        have f2 := br.frozen 2
        go_wp2
        rw [put3_fold, ← Hst.out]
        exact ret_val (a := nl) Tryz.results32 rfl (br.put nl) rfl ⟨rfl, put3_below hbr (by omega) nl⟩
      · go_wp2_with fail
        refine (rtruth_c true _).mono ?_
        rintro e w3 ⟨rfl, hb3⟩
        have r3 := br.after hb3
        have hbw := hbr.trans (hb3.mono hbr.size)
        clear hb3 br hbr
        have a0 := r3.cell0
        have a1 := r3.cell1
        have a2 := r3.cell2
        have f0 := r3.frozen 0
        have f1 := r3.frozen 1
        have f2 := r3.frozen 2
        go_wp2
        rw [put3_fold, ← Hst.out]
        exact ret_val (a := tt) Tryz.results32 rfl (r3.put tt) rfl ⟨rfl, put3_below hbw (by omega) tt⟩

set_option maxHeartbeats 400000 in
theorem rand_nil (A : Option Addr) (c : Nat) (w : World) :
    Calls Tryz.prog 32 #[.slice A 0 c] w fun e w' => e = .returned tt.v ∧ Below w.heap.size w w' := by
  go_enter Tryz.func32, Tryz.ntmps32
  go_wp2_with fail
  refine wp_loop_rounds 1 ?_
  rw [rounds_succ]
  go_wp2_with fail
  refine (rtruth_c true _).mono ?_
  rintro e w3 ⟨rfl, hb3⟩
  have r3 : Bx w3 w.heap.size nl := (Bx.new w nl).after hb3
  have hbw : Below w.heap.size w w3 := (below_one _ _).trans (hb3.mono (by simp))
  clear hb3
  have a0 := r3.cell0
  have a1 := r3.cell1
  have a2 := r3.cell2
  have f0 := r3.frozen 0
  have f1 := r3.frozen 1
  have f2 := r3.frozen 2
  go_wp2
  rw [put3_fold]
  exact ret_val (a := tt) Tryz.results32 rfl (r3.put tt) rfl ⟨rfl, put3_below hbw (by omega) tt⟩

theorem rand_c (A : Option Addr) (n c : Nat) (vs : List Val) (w : World) (hn : vs.length = n) (hmax : n ≤ maxLen) (hs : Sl w A vs) :
    Calls Tryz.prog 32 #[.slice A n c] w fun e w' => e = .returned (ra ff tt true vs).v ∧ Below w.heap.size w w' := by
  rcases hs with rfl | ⟨b, off, rfl, hlt, h⟩
  · obtain rfl : n = 0 := hn.symm
    exact rand_nil A c w
  · exact rand_some b off n c vs w hn hmax hlt h

set_option maxHeartbeats 600000 in
theorem ror_some (b off n c : Nat) (vs : List Val) (w : World) (hn : vs.length = n) (hmax : n ≤ maxLen) (hlt : b < w.heap.size)
    (hs : ∀ i (a : Val), vs[i]? = some a → w.cell? ⟨b, off + i * 3, none⟩ = some (.int .i64 a.k) ∧ w.cell? ⟨b, off + i * 3 + 1, none⟩ = some (.int .i64 a.n) ∧ w.cell? ⟨b, off + i * 3 + 2, none⟩ = some (.string a.s)) :
    Calls Tryz.prog 33 #[.slice (some ⟨b, off, none⟩) n c] w fun e w' => e = .returned (ra tt ff true vs).v ∧ Below w.heap.size w w' := by
  unfold maxLen at hmax
  have Hn := Lib.hid hn
  have Hs := Lib.hid hs
  clear hn hs
  go_enter Tryz.func33, Tryz.ntmps33
  go_wp2_with fail
  go_loopw [3, 4] (fun x i wr => ∃ (k : Nat) (all : Bool), k ≤ n ∧ x = .bool all ∧ i = .int .i64 k ∧ Bx wr w.heap.size nl ∧ Below w.heap.size w wr ∧ Hid (ra tt ff all (vs.drop k) = ra tt ff true vs))
    (fun _ i _ => n - (intOf i).toNat)
  case atStart => exact ⟨0, true, Nat.zero_le _, rfl, rfl, Bx.new w nl, below_one _ _, rfl⟩
  case round =>
    obtain ⟨k, all, hk, rfl, rfl, br, hbr, hinv⟩ := hrel
    by_cases hlt' : k < n
    · obtain ⟨v, hv⟩ : ∃ v, vs[k]? = some v := ⟨vs[k]'(by rw [Hn.out]; exact hlt'), List.getElem?_eq_getElem _⟩
      obtain ⟨c0, c1, c2⟩ := Hs.out k v hv
      have d0 : Hid (wr.cell? ⟨b, off + k * 3, none⟩ = some (.int .i64 v.k)) := (hbr.cell (p := ⟨b, off + k * 3, none⟩) hlt).trans c0
      have d1 : Hid (wr.cell? ⟨b, off + k * 3 + 1, none⟩ = some (.int .i64 v.n)) := (hbr.cell (p := ⟨b, off + k * 3 + 1, none⟩) hlt).trans c1
      have d2 : Hid (wr.cell? ⟨b, off + k * 3 + 2, none⟩ = some (.string v.s)) := (hbr.cell (p := ⟨b, off + k * 3 + 2, none⟩) hlt).trans c2
      have hbl : b < wr.heap.size := Nat.lt_of_lt_of_le hlt hbr.size
      have Hv := Lib.hid hv
      clear c0 c1 c2 hv
      have hstep := ra_drop tt ff all vs k v Hv.out
      obtain ⟨es, hes⟩ : ∃ es, v.eq tt = es := ⟨_, rfl⟩
      obtain ⟨ew, hew⟩ : ∃ ew, v.eq ff = ew := ⟨_, rfl⟩
      rw [hes, hew] at hstep
      have Hes := Lib.hid hes
      have Hew := Lib.hid hew
      have Hst := Lib.hid hstep
      clear hstep hes hew
      go_wp2_with fail
      refine Reg.wp_region_vals mixed (by kernel_rfl) [(11, .slice (some ⟨b, off, none⟩) n c), (12, .int .i64 k), (13, .pointer (some ⟨b, off + k * 3, none⟩)), (14, v.v), (15, tt.v), (16, .bool es)] 30 rfl (by kernel_rfl) ?_ ?_
      · intro F hF w' hB
        have e0 := (hB.cell (p := ⟨b, off + k * 3, none⟩) hbl).trans d0.out
        have e1 := (hB.cell (p := ⟨b, off + k * 3 + 1, none⟩) hbl).trans d1.out
        have e2 := (hB.cell (p := ⟨b, off + k * 3 + 2, none⟩) hbl).trans d2.out
        refine ⟨?_, ?_, ?_, ?_, ?_, ?_, trivial⟩
        · exact Reg.doesV_val (ev_move rfl) (by rw [hF]; kernel_rfl) (by rw [hF]; kernel_rfl)
        · exact Reg.doesV_val (ev_move rfl) (by rw [hF]; kernel_rfl) (by rw [hF]; kernel_rfl)
        · exact Reg.doesV_val (ev_index (b := b) (off := off) (c := c) hlt' rfl (by rw [hF]; kernel_rfl) (by rw [hF]; kernel_rfl)) (by rw [hF]; kernel_rfl) (by rw [hF]; kernel_rfl)
        · exact Reg.doesV_val (ev_load3 e0 e1 e2 rfl (by rw [hF]; kernel_rfl)) (by rw [hF]; kernel_rfl) (by rw [hF]; kernel_rfl)
        · exact Reg.doesV_call (rtruth_c true w') (ev_call enrTruth rfl (by rw [hF]; kernel_rfl)) (by rw [hF]; kernel_rfl) (by rw [hF]; kernel_rfl)
        · exact Reg.doesV_val (by rw [ev_eq v tt rfl (by rw [hF]; kernel_rfl) (by rw [hF]; kernel_rfl), Hes.out]) (by rw [hF]; kernel_rfl) (by rw [hF]; kernel_rfl)
      · intro w2 hB
        simp only [Reg.putAll, Act.put, List.setIfInBounds_toArray, List.set_cons_zero, List.set_cons_succ]
        have hb2 := hbr.trans (hB.mono hbr.size)
        have br2 := br.after hB
        have hbl2 : b < w2.heap.size := Nat.lt_of_lt_of_le hbl hB.size
        have d0 : Hid (w2.cell? ⟨b, off + k * 3, none⟩ = some (.int .i64 v.k)) := (hB.cell (p := ⟨b, off + k * 3, none⟩) hbl).trans d0.out
        have d1 : Hid (w2.cell? ⟨b, off + k * 3 + 1, none⟩ = some (.int .i64 v.n)) := (hB.cell (p := ⟨b, off + k * 3 + 1, none⟩) hbl).trans d1.out
        have d2 : Hid (w2.cell? ⟨b, off + k * 3 + 2, none⟩ = some (.string v.s)) := (hB.cell (p := ⟨b, off + k * 3 + 2, none⟩) hbl).trans d2.out
        clear hB hbr br hbl
        cases es
        · go_wp2_with fail
          cases all
          · refine Reg.wp_region_late mixed (by kernel_rfl) [(18, .bool false), (19, .bool false), (20, undef), (21, undef), (22, undef), (23, undef), (24, undef), (25, undef), (26, .bool false)] [(3, .bool false)] (fun i => i == 0) 30 rfl (by kernel_rfl) ?_ ?_
            · intro E F hE hF w' hB
              refine ⟨?_, ?_, ?_, ?_, ?_, ?_, ?_, ?_, ?_, ?_, trivial⟩
              · exact Reg.doesV_val (ev_move rfl) (by rw [hE]; kernel_rfl) (by rw [hE, hF]; kernel_rfl)
              · exact Reg.doesV_val (ev_move rfl) (by rw [hF]; kernel_rfl) (by rw [hF]; kernel_rfl)
              · exact Reg.doesV_skip (by rw [hF]; kernel_rfl) (by rw [hF]; kernel_rfl)
              · exact Reg.doesV_skip (by rw [hF]; kernel_rfl) (by rw [hF]; kernel_rfl)
              · exact Reg.doesV_skip (by rw [hF]; kernel_rfl) (by rw [hF]; kernel_rfl)
              · exact Reg.doesV_skip (by rw [hF]; kernel_rfl) (by rw [hF]; kernel_rfl)
              · exact Reg.doesV_skip (by rw [hF]; kernel_rfl) (by rw [hF]; kernel_rfl)
              · exact Reg.doesV_skip (by rw [hF]; kernel_rfl) (by rw [hF]; kernel_rfl)
              · exact Reg.doesV_val (ev_pick false rfl (by rw [hF]; kernel_rfl)) (by rw [hF]; kernel_rfl) (by rw [hF]; kernel_rfl)
              · exact Reg.doesV_val (ev_assign rfl) (by rw [hF]; kernel_rfl) (by rw [hF]; kernel_rfl)
            · intro w3 hB
              simp only [List.cons_append, List.nil_append, Reg.putAll, Act.put, List.setIfInBounds_toArray, List.set_cons_zero, List.set_cons_succ]
              have hb3 := hb2.trans (hB.mono hb2.size)
              have br3 := br2.after hB
              clear hB hb2 br2 hbl2
              go_wp2
              go_roundw
              case rel => exact ⟨k + 1, false, by omega, rfl, by go_num, br3, hb3, Hst.out.symm.trans hinv.out⟩
              case measure => simp [intOf]; omega
          · refine Reg.wp_region_late mixed (by kernel_rfl) [(18, .bool true), (19, .bool true), (20, .slice (some ⟨b, off, none⟩) n c), (21, .int .i64 k), (22, .pointer (some ⟨b, off + k * 3, none⟩)), (23, v.v), (24, ff.v), (25, .bool ew), (26, .bool ew)] [(3, .bool ew)] (fun i => i == 0) 30 rfl (by kernel_rfl) ?_ ?_
            · intro E F hE hF w' hB
              have e0 := (hB.cell (p := ⟨b, off + k * 3, none⟩) hbl2).trans d0.out
              have e1 := (hB.cell (p := ⟨b, off + k * 3 + 1, none⟩) hbl2).trans d1.out
              have e2 := (hB.cell (p := ⟨b, off + k * 3 + 2, none⟩) hbl2).trans d2.out
              refine ⟨?_, ?_, ?_, ?_, ?_, ?_, ?_, ?_, ?_, ?_, trivial⟩
              · exact Reg.doesV_val (ev_move rfl) (by rw [hE]; kernel_rfl) (by rw [hE, hF]; kernel_rfl)
              · exact Reg.doesV_val (ev_move rfl) (by rw [hF]; kernel_rfl) (by rw [hF]; kernel_rfl)
              · exact Reg.doesV_val (ev_move rfl) (by rw [hF]; kernel_rfl) (by rw [hF]; kernel_rfl)
              · exact Reg.doesV_val (ev_move rfl) (by rw [hF]; kernel_rfl) (by rw [hF]; kernel_rfl)
              · exact Reg.doesV_val (ev_index (b := b) (off := off) (c := c) hlt' rfl (by rw [hF]; kernel_rfl) (by rw [hF]; kernel_rfl)) (by rw [hF]; kernel_rfl) (by rw [hF]; kernel_rfl)
              · exact Reg.doesV_val (ev_load3 e0 e1 e2 rfl (by rw [hF]; kernel_rfl)) (by rw [hF]; kernel_rfl) (by rw [hF]; kernel_rfl)
              · exact Reg.doesV_call (rtruth_c false w') (ev_call enrTruth rfl (by rw [hF]; kernel_rfl)) (by rw [hF]; kernel_rfl) (by rw [hF]; kernel_rfl)
              · exact Reg.doesV_val (by rw [ev_eq v ff rfl (by rw [hF]; kernel_rfl) (by rw [hF]; kernel_rfl), Hew.out]) (by rw [hF]; kernel_rfl) (by rw [hF]; kernel_rfl)
              · exact Reg.doesV_val (ev_pick true rfl (by rw [hF]; kernel_rfl)) (by rw [hF]; kernel_rfl) (by rw [hF]; kernel_rfl)
              · exact Reg.doesV_val (ev_assign rfl) (by rw [hF]; kernel_rfl) (by rw [hF]; kernel_rfl)
            · intro w3 hB
              simp only [List.cons_append, List.nil_append, Reg.putAll, Act.put, List.setIfInBounds_toArray, List.set_cons_zero, List.set_cons_succ]
              have hb3 := hb2.trans (hB.mono hb2.size)
              have br3 := br2.after hB
              clear hB hb2 br2 hbl2
              go_wp2
              go_roundw
              case rel => exact ⟨k + 1, ew, by omega, rfl, by go_num, br3, hb3, Hst.out.symm.trans hinv.out⟩
              case measure => simp [intOf]; omega
        · have Hfin := Lib.hid (Hst.out.symm.trans hinv.out)
          go_wp2_with fail
          refine (rtruth_c true _).mono ?_
          rintro e w3 ⟨rfl, hb3⟩
          have r3 := br2.after hb3
          have hbw := hb2.trans (hb3.mono hb2.size)
          clear hb3 br2 hb2
          have a0 := r3.cell0
          have a1 := r3.cell1
          have a2 := r3.cell2
          have f0 := r3.frozen 0
          have f1 := r3.frozen 1
          have f2 := r3.frozen 2
          go_wp2
          rw [put3_fold, ← Hfin.out]
          exact ret_val (a := tt) Tryz.results33 rfl (r3.put tt) rfl ⟨rfl, put3_below hbw (by omega) tt⟩
    · have hstep := hinv.out
      rw [List.drop_eq_nil_of_le (by rw [Hn.out]; omega)] at hstep
      have Hst := Lib.hid hstep
      clear hstep
      cases all
      · have a0 := br.cell0
        have a1 := br.cell1
        have a2 := br.cell2
        have f0 := br.frozen 0
        have f1 := br.frozen 1
        have f2 := br.frozen 2
        go_wp2
        rw [put3_fold, ← Hst.out]
        exact ret_val (a := nl) Tryz.results33 rfl (br.put nl) rfl ⟨rfl, put3_below hbr (by omega) nl⟩
      · go_wp2_with fail
        refine (rtruth_c false _).mono ?_
        rintro e w3 ⟨rfl, hb3⟩
        have r3 := br.after hb3
        have hbw := hbr.trans (hb3.mono hbr.size)
        clear hb3 br hbr
        have a0 := r3.cell0
        have a1 := r3.cell1
        have a2 := r3.cell2
        have f0 := r3.frozen 0
        have f1 := r3.frozen 1
        have f2 := r3.frozen 2
        go_wp2
        rw [put3_fold, ← Hst.out]
        exact ret_val (a := ff) Tryz.results33 rfl (r3.put ff) rfl ⟨rfl, put3_below hbw (by omega) ff⟩

set_option maxHeartbeats 400000 in
theorem ror_nil (A : Option Addr) (c : Nat) (w : World) :
    Calls Tryz.prog 33 #[.slice A 0 c] w fun e w' => e = .returned ff.v ∧ Below w.heap.size w w' := by
  go_enter Tryz.func33, Tryz.ntmps33
  go_wp2_with fail
  refine wp_loop_rounds 1 ?_
  rw [rounds_succ]
  go_wp2_with fail
  refine (rtruth_c false _).mono ?_
  rintro e w3 ⟨rfl, hb3⟩
  have r3 : Bx w3 w.heap.size nl := (Bx.new w nl).after hb3
  have hbw : Below w.heap.size w w3 := (below_one _ _).trans (hb3.mono (by simp))
  clear hb3
  have a0 := r3.cell0
  have a1 := r3.cell1
  have a2 := r3.cell2
  have f0 := r3.frozen 0
  have f1 := r3.frozen 1
  have f2 := r3.frozen 2
  go_wp2
  rw [put3_fold]
  exact ret_val (a := ff) Tryz.results33 rfl (r3.put ff) rfl ⟨rfl, put3_below hbw (by omega) ff⟩

theorem ror_c (A : Option Addr) (n c : Nat) (vs : List Val) (w : World) (hn : vs.length = n) (hmax : n ≤ maxLen) (hs : Sl w A vs) :
    Calls Tryz.prog 33 #[.slice A n c] w fun e w' => e = .returned (ra tt ff true vs).v ∧ Below w.heap.size w w' := by
  rcases hs with rfl | ⟨b, off, rfl, hlt, h⟩
  · obtain rfl : n = 0 := hn.symm
    exact ror_nil A c w
  · exact ror_some b off n c vs w hn hmax hlt h

theorem rand_and (vs : List Val) : ra ff tt true vs = andV vs := by unfold andV; rw [nt_ff]; exact ra_dec ff tt vs true
theorem ror_or (vs : List Val) : ra tt ff true vs = orV vs := by unfold orV; rw [nt_tt]; exact ra_dec tt ff vs true
end Go.Proofs.YticofedglhfdpaaGreatDoor
