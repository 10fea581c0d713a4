/-
  The law ValueTurns, walked: for every two lists of values it answers true, and turns nothing that was there.
-/
import Derived.Test.YtacmfjhmicgpnaaDoorFix
import Derived.Test.YtacmfjhmicgpnaaDoorTurnP
namespace Go.Proofs.YtacmfjhmicgpnaaDoor
open Go Go.RowKit
attribute [local go_sem ↓] run_eqV run_neV

set_option maxHeartbeats 1000000 in
/-- A list of more than sixty. -/
theorem turns_long (A A' : Option Addr) (n n' c c' : Nat) (m : Int) (w : World) (h : 60 < n ∨ 60 < n') (hn : n ≤ maxLen) (hn' : n' ≤ maxLen) (hm : w.cell? ⟨0, 0, none⟩ = some (.int .i64 m)) :
    Calls Tryd.prog 4 #[.slice A n c, .slice A' n' c'] w fun e w' => e = .returned (.bool true) ∧ Below w.heap.size w w' := by
  unfold maxLen at hn hn'
  have hlt : 0 < w.heap.size := World.block_lt_of_cell? _ _ hm
  have Hm := Lib.hid hm
  clear hm
  go_enter Tryd.func4, Tryd.ntmps4
  go_wp2_with fail
  refine (fixed_c m _ Hm.out).mono ?_
  rintro e w1 ⟨rfl, hb⟩
  have Hm1 : Hid (w1.cell? ⟨0, 0, none⟩ = some (.int .i64 m)) := (hb.cell hlt).trans Hm.out
  by_cases h1 : 60 < n
  · clear h
    go_wp2_with fail
    refine (fixed_c m _ Hm1.out).mono ?_
    rintro e w2 ⟨rfl, hb2⟩
    have hbw := hb.trans (hb2.mono hb.size)
    clear hb2
    go_wp2
    go_ret
    exact ⟨rfl, hbw⟩
  · have h2 : 60 < n' := by omega
    clear h
    go_wp2_with fail
    refine (fixed_c m _ Hm1.out).mono ?_
    rintro e w2 ⟨rfl, hb2⟩
    have hbw := hb.trans (hb2.mono hb.size)
    clear hb2
    go_wp2
    go_ret
    exact ⟨rfl, hbw⟩

theorem enRTruth : ∀ args w, (callFunc 17 args).run Tryd.prog w = .ok (.enter 17 args) w := fun _ _ => by kernel_rfl
theorem take_snoc (l : List Val) (k : Nat) (v : Val) (h : l[k]? = some v) : l.take (k + 1) = l.take k ++ [v] := by
  rw [List.take_add_one, h]; rfl
theorem heap_two (w : World) (o o' : Obj) : ((w.alloc o).alloc o').heap[w.heap.size]? = some o ∧ ((w.alloc o).alloc o').heap[w.heap.size + 1]? = some o' := by
  constructor
  · show ((w.heap.push _).push _)[w.heap.size]? = _
    rw [Array.getElem?_push_lt (by simp)]
    simp
  · have h := Array.getElem?_push_size (xs := w.heap.push o) (x := o')
    rw [Array.size_push] at h
    exact h

/-- What holds behind k rounds. -/
def TurnsRel (w : World) (ls ms : List Val) (v5 v6 i : Value) (wr : World) : Prop :=
  ∃ (k : Nat) (xs : List Val), k ≤ ls.length + ms.length ∧ xs = (ls ++ ms).take k ∧ i = .int .i64 k ∧ Own wr w.heap.size v5 xs ∧ Own wr w.heap.size v6 (xs.map nt).reverse ∧ v5.ownBlock ≠ v6.ownBlock ∧ Below w.heap.size w wr

set_option maxRecDepth 100000 in
set_option maxHeartbeats 4000000 in
theorem turns_short (A A' : Option Addr) (n n' c c' : Nat) (ls ms : List Val) (m : Int) (w : World) (hn : n ≤ 60) (hn' : n' ≤ 60) (hl : ls.length = n) (hl' : ms.length = n') (hs : Sl w A ls) (hs' : Sl w A' ms) (hm : w.cell? ⟨0, 0, none⟩ = some (.int .i64 m)) :
    Calls Tryd.prog 4 #[.slice A n c, .slice A' n' c'] w fun e w' => e = .returned (.bool true) ∧ Below w.heap.size w w' := by
  have Hm := Lib.hid hm
  have Hl := Lib.hid hl
  have Hl' := Lib.hid hl'
  have Hs := Lib.hid hs
  have Hs' := Lib.hid hs'
  clear hm hl hl' hs hs'
  go_enter Tryd.func4, Tryd.ntmps4
  go_wp2_with fail
  refine (fixed_c m _ Hm.out).mono ?_
  rintro e w1 ⟨rfl, hb1⟩
  go_wp2_with fail
  go_loopw [5, 6, 7] (TurnsRel w ls ms) (fun _ _ i _ => n + n' - (intOf i).toNat)
  case atStart =>
    exact ⟨0, [], Nat.zero_le _, rfl, rfl, own_empty _ _ _ hb1.size (heap_two _ _ _).1, own_empty _ _ _ (Nat.le_succ_of_le hb1.size) (heap_two _ _ _).2, by simp [Value.ownBlock], (hb1.alloc hb1.size _).alloc (by simp; exact Nat.le_succ_of_le hb1.size) _⟩
  case round =>
    obtain ⟨k, xs, hk, hxs, rfl, o5, o6, hne, hbr⟩ := hrel
    have hk' : k ≤ n + n' := by rw [Hl.out, Hl'.out] at hk; exact hk
    have Hxs := Lib.hid hxs
    have O5 := Lib.hid o5
    have O6 := Lib.hid o6
    have Hne := Lib.hid hne
    clear hk hxs o5 o6 hne
    by_cases hlt : k < n + n'
    · by_cases hkl : k < n
      · obtain ⟨v, hv⟩ : ∃ v, ls[k]? = some v := ⟨ls[k]'(by rw [Hl.out]; exact hkl), List.getElem?_eq_getElem _⟩
        obtain ⟨b, off, hA, hbl, hs⟩ : ∃ b off, A = some ⟨b, off, none⟩ ∧ b < w.heap.size ∧ ∀ i (a : Val), ls[i]? = some a → w.cell? ⟨b, off + i * 3, none⟩ = some (.int .i64 a.k) ∧ w.cell? ⟨b, off + i * 3 + 1, none⟩ = some (.int .i64 a.n) ∧ w.cell? ⟨b, off + i * 3 + 2, none⟩ = some (.string a.s) := by
          rcases Hs.out with h | h
          · rw [h] at hv; cases hv
          · exact h
        obtain ⟨c0, c1, c2⟩ := hs (k) v hv
        subst hA
        have d0 : wr.cell? ⟨b, off + (k) * 3, none⟩ = some (.int .i64 v.k) := (hbr.cell (p := ⟨b, off + (k) * 3, none⟩) hbl).trans c0
        have d1 : wr.cell? ⟨b, off + (k) * 3 + 1, none⟩ = some (.int .i64 v.n) := (hbr.cell (p := ⟨b, off + (k) * 3 + 1, none⟩) hbl).trans c1
        have d2 : wr.cell? ⟨b, off + (k) * 3 + 2, none⟩ = some (.string v.s) := (hbr.cell (p := ⟨b, off + (k) * 3 + 2, none⟩) hbl).trans c2
        have hblr : b < wr.heap.size := Nat.lt_of_lt_of_le hbl hbr.size
        have hnr : b ≠ wr.heap.size := Nat.ne_of_lt hblr
        clear c0 c1 c2 hs
        have Hv : Hid ((ls ++ ms)[k]? = some v) := (List.getElem?_append_left (by rw [Hl.out]; exact hkl)).trans hv
        clear hv
        go_wp2_with fail
        have tv : Bx (wr.alloc (.cells #[.int .i64 v.k, .int .i64 v.n, .string v.s] 25)) wr.heap.size v := Bx.new wr v
        have O5a : Hid (Own (wr.alloc (.cells #[.int .i64 v.k, .int .i64 v.n, .string v.s] 25)) w.heap.size u5 xs) := O5.out.alloc _
        have O6a : Hid (Own (wr.alloc (.cells #[.int .i64 v.k, .int .i64 v.n, .string v.s] 25)) w.heap.size u6 (xs.map nt).reverse) := O6.out.alloc _
        have hbl5 : ∃ k, u5.ownBlock = some k ∧ k < wr.heap.size := by obtain ⟨k, h1, _, h2⟩ := O5.out.lt; exact ⟨k, h1, h2⟩
        have hsz : w.heap.size ≤ wr.heap.size := hbr.size
        have hba := hbr.alloc hbr.size (.cells #[.int .i64 v.k, .int .i64 v.n, .string v.s] 25)
        obtain ⟨bv, hbv⟩ : ∃ bv, wr.heap.size = bv := ⟨_, rfl⟩
        have hbs : (wr.alloc (.cells #[.int .i64 v.k, .int .i64 v.n, .string v.s] 25)).heap.size = bv + 1 := by rw [← hbv]; simp
        clear O5 O6
        clear d0 d1 d2 hblr hnr
        generalize (wr.alloc (.cells #[.int .i64 v.k, .int .i64 v.n, .string v.s] 25)) = wa at *
        rw [hbv] at tv hbl5 hsz ⊢
        clear hbv hbr
        obtain ⟨e1, he1⟩ : ∃ e, v.eq tt = e := ⟨_, rfl⟩
        obtain ⟨e2, he2⟩ : ∃ e, v.eq ff = e := ⟨_, rfl⟩
        obtain ⟨e3, he3⟩ : ∃ e, v.eq nl = e := ⟨_, rfl⟩
        obtain ⟨st, hst⟩ : ∃ e, (!e1 && (!e2 && !e3)) = e := ⟨_, rfl⟩
        refine Reg.wp_region_vals mixed (by kernel_rfl) [(51, v.v), (52, tt.v), (53, .bool !e1), (54, .bool !e1), (55, cond e1 undef v.v), (56, cond e1 undef ff.v), (57, cond e1 undef (.bool !e2)), (58, .bool (!e1 && !e2)), (59, .bool (!e1 && !e2)), (60, cond e1 undef (cond e2 undef v.v)), (61, cond e1 undef (cond e2 undef nl.v)), (62, cond e1 undef (cond e2 undef (.bool !e3))), (63, .bool st)] 109 rfl (by kernel_rfl) ?_ ?_
        · intro F hF w' hB
          have tv' := tv.after hB
          cases e1
          · cases e2
            · have hst' : (!e3) = st := by simpa using hst
              subst hst'
              refine ⟨?_, ?_, ?_, ?_, ?_, ?_, ?_, ?_, ?_, ?_, ?_, ?_, ?_, trivial⟩
              · exact Reg.doesV_val (ev_load tv' rfl (by rw [hF]; kernel_rfl)) (by rw [hF]; kernel_rfl) (by rw [hF]; kernel_rfl)
              · exact Reg.doesV_call (rtruth_c true w') (ev_call enRTruth rfl (by rw [hF]; kernel_rfl)) (by rw [hF]; kernel_rfl) (by rw [hF]; kernel_rfl)
              · exact Reg.doesV_val (by rw [ev_ne v tt rfl (by rw [hF]; kernel_rfl) (by rw [hF]; kernel_rfl), he1]) (by rw [hF]; kernel_rfl) (by rw [hF]; kernel_rfl)
              · exact Reg.doesV_val (ev_move rfl) (by rw [hF]; kernel_rfl) (by rw [hF]; kernel_rfl)
              · exact Reg.doesV_val (ev_load tv' rfl (by rw [hF]; kernel_rfl)) (by rw [hF]; kernel_rfl) (by rw [hF]; kernel_rfl)
              · exact Reg.doesV_call (rtruth_c false w') (ev_call enRTruth rfl (by rw [hF]; kernel_rfl)) (by rw [hF]; kernel_rfl) (by rw [hF]; kernel_rfl)
              · exact Reg.doesV_val (by rw [ev_ne v ff rfl (by rw [hF]; kernel_rfl) (by rw [hF]; kernel_rfl), he2]) (by rw [hF]; kernel_rfl) (by rw [hF]; kernel_rfl)
              · exact Reg.doesV_val (ev_pick true rfl (by rw [hF]; kernel_rfl)) (by rw [hF]; kernel_rfl) (by rw [hF]; kernel_rfl)
              · exact Reg.doesV_val (ev_move rfl) (by rw [hF]; kernel_rfl) (by rw [hF]; kernel_rfl)
              · exact Reg.doesV_val (ev_load tv' rfl (by rw [hF]; kernel_rfl)) (by rw [hF]; kernel_rfl) (by rw [hF]; kernel_rfl)
              · exact Reg.doesV_val (v := nl.v) (by rw [hF]; kernel_rfl) (by rw [hF]; kernel_rfl) (by rw [hF]; kernel_rfl)
              · exact Reg.doesV_val (by rw [ev_ne v nl rfl (by rw [hF]; kernel_rfl) (by rw [hF]; kernel_rfl), he3]) (by rw [hF]; kernel_rfl) (by rw [hF]; kernel_rfl)
              · exact Reg.doesV_val (ev_pick true rfl (by rw [hF]; kernel_rfl)) (by rw [hF]; kernel_rfl) (by rw [hF]; kernel_rfl)
            · have hst' : false = st := by simpa using hst
              subst hst'
              refine ⟨?_, ?_, ?_, ?_, ?_, ?_, ?_, ?_, ?_, ?_, ?_, ?_, ?_, trivial⟩
              · exact Reg.doesV_val (ev_load tv' rfl (by rw [hF]; kernel_rfl)) (by rw [hF]; kernel_rfl) (by rw [hF]; kernel_rfl)
              · exact Reg.doesV_call (rtruth_c true w') (ev_call enRTruth rfl (by rw [hF]; kernel_rfl)) (by rw [hF]; kernel_rfl) (by rw [hF]; kernel_rfl)
              · exact Reg.doesV_val (by rw [ev_ne v tt rfl (by rw [hF]; kernel_rfl) (by rw [hF]; kernel_rfl), he1]) (by rw [hF]; kernel_rfl) (by rw [hF]; kernel_rfl)
              · exact Reg.doesV_val (ev_move rfl) (by rw [hF]; kernel_rfl) (by rw [hF]; kernel_rfl)
              · exact Reg.doesV_val (ev_load tv' rfl (by rw [hF]; kernel_rfl)) (by rw [hF]; kernel_rfl) (by rw [hF]; kernel_rfl)
              · exact Reg.doesV_call (rtruth_c false w') (ev_call enRTruth rfl (by rw [hF]; kernel_rfl)) (by rw [hF]; kernel_rfl) (by rw [hF]; kernel_rfl)
              · exact Reg.doesV_val (by rw [ev_ne v ff rfl (by rw [hF]; kernel_rfl) (by rw [hF]; kernel_rfl), he2]) (by rw [hF]; kernel_rfl) (by rw [hF]; kernel_rfl)
              · exact Reg.doesV_val (ev_pick true rfl (by rw [hF]; kernel_rfl)) (by rw [hF]; kernel_rfl) (by rw [hF]; kernel_rfl)
              · exact Reg.doesV_val (ev_move rfl) (by rw [hF]; kernel_rfl) (by rw [hF]; kernel_rfl)
              · exact Reg.doesV_skip (by rw [hF]; kernel_rfl) (by rw [hF]; kernel_rfl)
              · exact Reg.doesV_skip (by rw [hF]; kernel_rfl) (by rw [hF]; kernel_rfl)
              · exact Reg.doesV_skip (by rw [hF]; kernel_rfl) (by rw [hF]; kernel_rfl)
              · exact Reg.doesV_val (ev_pick false rfl (by rw [hF]; kernel_rfl)) (by rw [hF]; kernel_rfl) (by rw [hF]; kernel_rfl)
          · have hst' : false = st := by simpa using hst
            subst hst'
            refine ⟨?_, ?_, ?_, ?_, ?_, ?_, ?_, ?_, ?_, ?_, ?_, ?_, ?_, trivial⟩
            · exact Reg.doesV_val (ev_load tv' rfl (by rw [hF]; kernel_rfl)) (by rw [hF]; kernel_rfl) (by rw [hF]; kernel_rfl)
            · exact Reg.doesV_call (rtruth_c true w') (ev_call enRTruth rfl (by rw [hF]; kernel_rfl)) (by rw [hF]; kernel_rfl) (by rw [hF]; kernel_rfl)
            · exact Reg.doesV_val (by rw [ev_ne v tt rfl (by rw [hF]; kernel_rfl) (by rw [hF]; kernel_rfl), he1]) (by rw [hF]; kernel_rfl) (by rw [hF]; kernel_rfl)
            · exact Reg.doesV_val (ev_move rfl) (by rw [hF]; kernel_rfl) (by rw [hF]; kernel_rfl)
            · exact Reg.doesV_skip (by rw [hF]; kernel_rfl) (by rw [hF]; kernel_rfl)
            · exact Reg.doesV_skip (by rw [hF]; kernel_rfl) (by rw [hF]; kernel_rfl)
            · exact Reg.doesV_skip (by rw [hF]; kernel_rfl) (by rw [hF]; kernel_rfl)
            · exact Reg.doesV_val (ev_pick false rfl (by rw [hF]; kernel_rfl)) (by rw [hF]; kernel_rfl) (by rw [hF]; kernel_rfl)
            · exact Reg.doesV_val (ev_move rfl) (by rw [hF]; kernel_rfl) (by rw [hF]; kernel_rfl)
            · exact Reg.doesV_skip (by rw [hF]; kernel_rfl) (by rw [hF]; kernel_rfl)
            · exact Reg.doesV_skip (by rw [hF]; kernel_rfl) (by rw [hF]; kernel_rfl)
            · exact Reg.doesV_skip (by rw [hF]; kernel_rfl) (by rw [hF]; kernel_rfl)
            · exact Reg.doesV_val (ev_pick false rfl (by rw [hF]; kernel_rfl)) (by rw [hF]; kernel_rfl) (by rw [hF]; kernel_rfl)
        intro w2 hB
        have tv2 := tv.after hB
        have O52 : Hid (Own w2 w.heap.size u5 xs) := O5a.out.after hB
        have O62 : Hid (Own w2 w.heap.size u6 (xs.map nt).reverse) := O6a.out.after hB
        have hb2 := hba.trans (hB.mono hba.size)
        have hs2 : bv + 1 ≤ w2.heap.size := by rw [← hbs]; exact hB.size
        clear tv O5a O6a hba hB hbs
        simp only [Reg.putAll, Act.put, List.setIfInBounds_toArray, List.set_cons_zero, List.set_cons_succ]
        cases st
        · clear hst he1 he2 he3
          have hxl : xs.length ≤ 120 := by rw [Hxs.out]; exact Nat.le_trans (List.length_take_le _ _) (by omega)
          obtain ⟨R, hR⟩ : ∃ R, (xs.map nt).reverse = R := ⟨_, rfl⟩
          have HRl : Hid (R.length = xs.length) := by show R.length = xs.length; rw [← hR]; simp
          have HR := Lib.hid hR
          have O6b : Hid (Own w2 w.heap.size u6 R) := hR ▸ O62.out
          obtain ⟨⟨g6, c6, h6⟩, _⟩ := O6b.out
          subst h6
          clear O62 hR
          have x0 := tv2.cell0
          have x1 := tv2.cell1
          have x2 := tv2.cell2
          have hn5 : some bv ≠ u5.ownBlock := by obtain ⟨k, h1, h2⟩ := hbl5; rw [h1]; intro e; injection e with e; omega
          have Hn5 := Lib.hid hn5
          clear hbl5 hn5
          go_wp2_with (at_builtin; go_must (refine wpList_app rfl (.tmp 64) (.tmp 66) rfl w.heap.size u5 xs [v] w2.heap.size 1 rfl (O52.out.alloc _) rfl (own_one w2 _ v hb2.size) (by simp; omega) (by simp; omega) ?_; intro v5 w3 o5 hg5 _; have tv3 : Bx w3 bv v := (tv2.alloc _).kept hg5 Hn5.out; have y0 := tv3.cell0; have y1 := tv3.cell1; have y2 := tv3.cell2; have hg5' := Lib.hid hg5; clear hg5))
          have hb3 := (hb2.alloc hb2.size _).grown hg5'.out (by simp; omega) (by intro k hk; obtain ⟨k', h1, h2, _⟩ := O52.out.lt; rw [h1] at hk; injection hk with hk; omega)
          have O63 : Hid (Own w3 w.heap.size (.slice (some ⟨g6, 0, none⟩) R.length c6) R) := (O6b.out.alloc _).kept hg5'.out (Ne.symm Hne.out)
          have hs3 : w2.heap.size ≤ w3.heap.size := by have := hg5'.out.size; simp at this; omega
          clear x0 x1 x2 y0 y1 y2 O6b Hn5 hg5' tv2 O52
          refine (not_c v _).mono ?_
          rintro e w4 ⟨rfl, hb4⟩
          have O54 : Hid (Own w4 w.heap.size v5 (xs ++ [v])) := o5.after hb4
          have O64 : Hid (Own w4 w.heap.size (.slice (some ⟨g6, 0, none⟩) R.length c6) R) := O63.out.after hb4
          have hbd := hb3.trans (hb4.mono hb3.size)
          have hn5 : v5.ownBlock ≠ some w4.heap.size := by obtain ⟨k, h1, _, h2⟩ := O54.out.lt; rw [h1]; intro e; injection e with e; omega
          clear o5 O63 hb3 hb4 tv3
          go_wp2_with (at_builtin; go_must (refine wpList_app rfl (.tmp 70) (.tmp 71) rfl w.heap.size (.slice (some ⟨w4.heap.size, 0, none⟩) 1 1) [nt v] R g6 c6 rfl (own_one w4 _ (nt v) hbd.size) rfl (O64.out.alloc _) (by have := HRl.out; simp; omega) (by have := hbd.size; simp; omega) ?_; intro v6 w5 o6 hg6 hat6))
          have hv6 : v5.ownBlock ≠ v6.ownBlock := by
            obtain ⟨k, h1, _, h2⟩ := O54.out.lt
            rw [h1]
            rcases hat6 with h | h
            · rw [h]; intro e; injection e with e; simp at e; omega
            · rw [h]; intro e; injection e with e; simp at e; omega
          have O55 : Hid (Own w5 w.heap.size v5 (xs ++ [v])) := (O54.out.alloc _).kept hg6 hn5
          have hbe := (hbd.alloc hbd.size _).grown hg6 (by have := hbd.size; simp; omega) (by intro k hk; injection hk with hk; simp at hk; have := hbd.size; omega)
          have O65 : Hid (Own w5 w.heap.size v6 ((xs ++ [v]).map nt).reverse) := by
            have e : ((xs ++ [v]).map nt).reverse = [nt v] ++ R := by rw [← HR.out]; simp
            show Own _ _ _ _
            rw [e]; exact o6
          have Hv6 := Lib.hid hv6
          clear hat6 hg6 hn5 O54 O64 o6 hv6
          go_wp2_with fail
          go_roundw
          case rel => exact ⟨_, xs ++ [v], by rw [Hl.out, Hl'.out]; exact hlt, by rw [take_snoc _ _ _ Hv.out, Hxs.out], by go_num, O55.out, O65.out, Hv6.out, hbe⟩
          case measure => simp [intOf]; omega
        · go_wp2_with fail
          go_ret
          exact ⟨rfl, hb2⟩
      · obtain ⟨j, hj⟩ : ∃ j, k = n + j := ⟨k - n, by omega⟩
        have hjl : j < n' := by omega
        subst hj
        obtain ⟨v, hv⟩ : ∃ v, ms[j]? = some v := ⟨ms[j]'(by rw [Hl'.out]; exact hjl), List.getElem?_eq_getElem _⟩
        obtain ⟨b, off, hA, hbl, hs⟩ : ∃ b off, A' = some ⟨b, off, none⟩ ∧ b < w.heap.size ∧ ∀ i (a : Val), ms[i]? = some a → w.cell? ⟨b, off + i * 3, none⟩ = some (.int .i64 a.k) ∧ w.cell? ⟨b, off + i * 3 + 1, none⟩ = some (.int .i64 a.n) ∧ w.cell? ⟨b, off + i * 3 + 2, none⟩ = some (.string a.s) := by
          rcases Hs'.out with h | h
          · rw [h] at hv; cases hv
          · exact h
        obtain ⟨c0, c1, c2⟩ := hs (j) v hv
        subst hA
        have d0 : wr.cell? ⟨b, off + (j) * 3, none⟩ = some (.int .i64 v.k) := (hbr.cell (p := ⟨b, off + (j) * 3, none⟩) hbl).trans c0
        have d1 : wr.cell? ⟨b, off + (j) * 3 + 1, none⟩ = some (.int .i64 v.n) := (hbr.cell (p := ⟨b, off + (j) * 3 + 1, none⟩) hbl).trans c1
        have d2 : wr.cell? ⟨b, off + (j) * 3 + 2, none⟩ = some (.string v.s) := (hbr.cell (p := ⟨b, off + (j) * 3 + 2, none⟩) hbl).trans c2
        have hblr : b < wr.heap.size := Nat.lt_of_lt_of_le hbl hbr.size
        have hnr : b ≠ wr.heap.size := Nat.ne_of_lt hblr
        clear c0 c1 c2 hs
        have Hv : Hid ((ls ++ ms)[n + j]? = some v) := (List.getElem?_append_right (by rw [Hl.out]; omega)).trans (by rw [Hl.out, Nat.add_sub_cancel_left]; exact hv)
        clear hv
        go_wp2_with fail
        have tv : Bx (wr.alloc (.cells #[.int .i64 v.k, .int .i64 v.n, .string v.s] 25)) wr.heap.size v := Bx.new wr v
        have O5a : Hid (Own (wr.alloc (.cells #[.int .i64 v.k, .int .i64 v.n, .string v.s] 25)) w.heap.size u5 xs) := O5.out.alloc _
        have O6a : Hid (Own (wr.alloc (.cells #[.int .i64 v.k, .int .i64 v.n, .string v.s] 25)) w.heap.size u6 (xs.map nt).reverse) := O6.out.alloc _
        have hbl5 : ∃ k, u5.ownBlock = some k ∧ k < wr.heap.size := by obtain ⟨k, h1, _, h2⟩ := O5.out.lt; exact ⟨k, h1, h2⟩
        have hsz : w.heap.size ≤ wr.heap.size := hbr.size
        have hba := hbr.alloc hbr.size (.cells #[.int .i64 v.k, .int .i64 v.n, .string v.s] 25)
        obtain ⟨bv, hbv⟩ : ∃ bv, wr.heap.size = bv := ⟨_, rfl⟩
        have hbs : (wr.alloc (.cells #[.int .i64 v.k, .int .i64 v.n, .string v.s] 25)).heap.size = bv + 1 := by rw [← hbv]; simp
        clear O5 O6
        clear d0 d1 d2 hblr hnr
        generalize (wr.alloc (.cells #[.int .i64 v.k, .int .i64 v.n, .string v.s] 25)) = wa at *
        rw [hbv] at tv hbl5 hsz ⊢
        clear hbv hbr
        obtain ⟨e1, he1⟩ : ∃ e, v.eq tt = e := ⟨_, rfl⟩
        obtain ⟨e2, he2⟩ : ∃ e, v.eq ff = e := ⟨_, rfl⟩
        obtain ⟨e3, he3⟩ : ∃ e, v.eq nl = e := ⟨_, rfl⟩
        obtain ⟨st, hst⟩ : ∃ e, (!e1 && (!e2 && !e3)) = e := ⟨_, rfl⟩
        refine Reg.wp_region_vals mixed (by kernel_rfl) [(51, v.v), (52, tt.v), (53, .bool !e1), (54, .bool !e1), (55, cond e1 undef v.v), (56, cond e1 undef ff.v), (57, cond e1 undef (.bool !e2)), (58, .bool (!e1 && !e2)), (59, .bool (!e1 && !e2)), (60, cond e1 undef (cond e2 undef v.v)), (61, cond e1 undef (cond e2 undef nl.v)), (62, cond e1 undef (cond e2 undef (.bool !e3))), (63, .bool st)] 109 rfl (by kernel_rfl) ?_ ?_
        · intro F hF w' hB
          have tv' := tv.after hB
          cases e1
          · cases e2
            · have hst' : (!e3) = st := by simpa using hst
              subst hst'
              refine ⟨?_, ?_, ?_, ?_, ?_, ?_, ?_, ?_, ?_, ?_, ?_, ?_, ?_, trivial⟩
              · exact Reg.doesV_val (ev_load tv' rfl (by rw [hF]; kernel_rfl)) (by rw [hF]; kernel_rfl) (by rw [hF]; kernel_rfl)
              · exact Reg.doesV_call (rtruth_c true w') (ev_call enRTruth rfl (by rw [hF]; kernel_rfl)) (by rw [hF]; kernel_rfl) (by rw [hF]; kernel_rfl)
              · exact Reg.doesV_val (by rw [ev_ne v tt rfl (by rw [hF]; kernel_rfl) (by rw [hF]; kernel_rfl), he1]) (by rw [hF]; kernel_rfl) (by rw [hF]; kernel_rfl)
              · exact Reg.doesV_val (ev_move rfl) (by rw [hF]; kernel_rfl) (by rw [hF]; kernel_rfl)
              · exact Reg.doesV_val (ev_load tv' rfl (by rw [hF]; kernel_rfl)) (by rw [hF]; kernel_rfl) (by rw [hF]; kernel_rfl)
              · exact Reg.doesV_call (rtruth_c false w') (ev_call enRTruth rfl (by rw [hF]; kernel_rfl)) (by rw [hF]; kernel_rfl) (by rw [hF]; kernel_rfl)
              · exact Reg.doesV_val (by rw [ev_ne v ff rfl (by rw [hF]; kernel_rfl) (by rw [hF]; kernel_rfl), he2]) (by rw [hF]; kernel_rfl) (by rw [hF]; kernel_rfl)
              · exact Reg.doesV_val (ev_pick true rfl (by rw [hF]; kernel_rfl)) (by rw [hF]; kernel_rfl) (by rw [hF]; kernel_rfl)
              · exact Reg.doesV_val (ev_move rfl) (by rw [hF]; kernel_rfl) (by rw [hF]; kernel_rfl)
              · exact Reg.doesV_val (ev_load tv' rfl (by rw [hF]; kernel_rfl)) (by rw [hF]; kernel_rfl) (by rw [hF]; kernel_rfl)
              · exact Reg.doesV_val (v := nl.v) (by rw [hF]; kernel_rfl) (by rw [hF]; kernel_rfl) (by rw [hF]; kernel_rfl)
              · exact Reg.doesV_val (by rw [ev_ne v nl rfl (by rw [hF]; kernel_rfl) (by rw [hF]; kernel_rfl), he3]) (by rw [hF]; kernel_rfl) (by rw [hF]; kernel_rfl)
              · exact Reg.doesV_val (ev_pick true rfl (by rw [hF]; kernel_rfl)) (by rw [hF]; kernel_rfl) (by rw [hF]; kernel_rfl)
            · have hst' : false = st := by simpa using hst
              subst hst'
              refine ⟨?_, ?_, ?_, ?_, ?_, ?_, ?_, ?_, ?_, ?_, ?_, ?_, ?_, trivial⟩
              · exact Reg.doesV_val (ev_load tv' rfl (by rw [hF]; kernel_rfl)) (by rw [hF]; kernel_rfl) (by rw [hF]; kernel_rfl)
              · exact Reg.doesV_call (rtruth_c true w') (ev_call enRTruth rfl (by rw [hF]; kernel_rfl)) (by rw [hF]; kernel_rfl) (by rw [hF]; kernel_rfl)
              · exact Reg.doesV_val (by rw [ev_ne v tt rfl (by rw [hF]; kernel_rfl) (by rw [hF]; kernel_rfl), he1]) (by rw [hF]; kernel_rfl) (by rw [hF]; kernel_rfl)
              · exact Reg.doesV_val (ev_move rfl) (by rw [hF]; kernel_rfl) (by rw [hF]; kernel_rfl)
              · exact Reg.doesV_val (ev_load tv' rfl (by rw [hF]; kernel_rfl)) (by rw [hF]; kernel_rfl) (by rw [hF]; kernel_rfl)
              · exact Reg.doesV_call (rtruth_c false w') (ev_call enRTruth rfl (by rw [hF]; kernel_rfl)) (by rw [hF]; kernel_rfl) (by rw [hF]; kernel_rfl)
              · exact Reg.doesV_val (by rw [ev_ne v ff rfl (by rw [hF]; kernel_rfl) (by rw [hF]; kernel_rfl), he2]) (by rw [hF]; kernel_rfl) (by rw [hF]; kernel_rfl)
              · exact Reg.doesV_val (ev_pick true rfl (by rw [hF]; kernel_rfl)) (by rw [hF]; kernel_rfl) (by rw [hF]; kernel_rfl)
              · exact Reg.doesV_val (ev_move rfl) (by rw [hF]; kernel_rfl) (by rw [hF]; kernel_rfl)
              · exact Reg.doesV_skip (by rw [hF]; kernel_rfl) (by rw [hF]; kernel_rfl)
              · exact Reg.doesV_skip (by rw [hF]; kernel_rfl) (by rw [hF]; kernel_rfl)
              · exact Reg.doesV_skip (by rw [hF]; kernel_rfl) (by rw [hF]; kernel_rfl)
              · exact Reg.doesV_val (ev_pick false rfl (by rw [hF]; kernel_rfl)) (by rw [hF]; kernel_rfl) (by rw [hF]; kernel_rfl)
          · have hst' : false = st := by simpa using hst
            subst hst'
            refine ⟨?_, ?_, ?_, ?_, ?_, ?_, ?_, ?_, ?_, ?_, ?_, ?_, ?_, trivial⟩
            · exact Reg.doesV_val (ev_load tv' rfl (by rw [hF]; kernel_rfl)) (by rw [hF]; kernel_rfl) (by rw [hF]; kernel_rfl)
            · exact Reg.doesV_call (rtruth_c true w') (ev_call enRTruth rfl (by rw [hF]; kernel_rfl)) (by rw [hF]; kernel_rfl) (by rw [hF]; kernel_rfl)
            · exact Reg.doesV_val (by rw [ev_ne v tt rfl (by rw [hF]; kernel_rfl) (by rw [hF]; kernel_rfl), he1]) (by rw [hF]; kernel_rfl) (by rw [hF]; kernel_rfl)
            · exact Reg.doesV_val (ev_move rfl) (by rw [hF]; kernel_rfl) (by rw [hF]; kernel_rfl)
            · exact Reg.doesV_skip (by rw [hF]; kernel_rfl) (by rw [hF]; kernel_rfl)
            · exact Reg.doesV_skip (by rw [hF]; kernel_rfl) (by rw [hF]; kernel_rfl)
            · exact Reg.doesV_skip (by rw [hF]; kernel_rfl) (by rw [hF]; kernel_rfl)
            · exact Reg.doesV_val (ev_pick false rfl (by rw [hF]; kernel_rfl)) (by rw [hF]; kernel_rfl) (by rw [hF]; kernel_rfl)
            · exact Reg.doesV_val (ev_move rfl) (by rw [hF]; kernel_rfl) (by rw [hF]; kernel_rfl)
            · exact Reg.doesV_skip (by rw [hF]; kernel_rfl) (by rw [hF]; kernel_rfl)
            · exact Reg.doesV_skip (by rw [hF]; kernel_rfl) (by rw [hF]; kernel_rfl)
            · exact Reg.doesV_skip (by rw [hF]; kernel_rfl) (by rw [hF]; kernel_rfl)
            · exact Reg.doesV_val (ev_pick false rfl (by rw [hF]; kernel_rfl)) (by rw [hF]; kernel_rfl) (by rw [hF]; kernel_rfl)
        intro w2 hB
        have tv2 := tv.after hB
        have O52 : Hid (Own w2 w.heap.size u5 xs) := O5a.out.after hB
        have O62 : Hid (Own w2 w.heap.size u6 (xs.map nt).reverse) := O6a.out.after hB
        have hb2 := hba.trans (hB.mono hba.size)
        have hs2 : bv + 1 ≤ w2.heap.size := by rw [← hbs]; exact hB.size
        clear tv O5a O6a hba hB hbs
        simp only [Reg.putAll, Act.put, List.setIfInBounds_toArray, List.set_cons_zero, List.set_cons_succ]
        cases st
        · clear hst he1 he2 he3
          have hxl : xs.length ≤ 120 := by rw [Hxs.out]; exact Nat.le_trans (List.length_take_le _ _) (by omega)
          obtain ⟨R, hR⟩ : ∃ R, (xs.map nt).reverse = R := ⟨_, rfl⟩
          have HRl : Hid (R.length = xs.length) := by show R.length = xs.length; rw [← hR]; simp
          have HR := Lib.hid hR
          have O6b : Hid (Own w2 w.heap.size u6 R) := hR ▸ O62.out
          obtain ⟨⟨g6, c6, h6⟩, _⟩ := O6b.out
          subst h6
          clear O62 hR
          have x0 := tv2.cell0
          have x1 := tv2.cell1
          have x2 := tv2.cell2
          have hn5 : some bv ≠ u5.ownBlock := by obtain ⟨k, h1, h2⟩ := hbl5; rw [h1]; intro e; injection e with e; omega
          have Hn5 := Lib.hid hn5
          clear hbl5 hn5
          go_wp2_with (at_builtin; go_must (refine wpList_app rfl (.tmp 64) (.tmp 66) rfl w.heap.size u5 xs [v] w2.heap.size 1 rfl (O52.out.alloc _) rfl (own_one w2 _ v hb2.size) (by simp; omega) (by simp; omega) ?_; intro v5 w3 o5 hg5 _; have tv3 : Bx w3 bv v := (tv2.alloc _).kept hg5 Hn5.out; have y0 := tv3.cell0; have y1 := tv3.cell1; have y2 := tv3.cell2; have hg5' := Lib.hid hg5; clear hg5))
          have hb3 := (hb2.alloc hb2.size _).grown hg5'.out (by simp; omega) (by intro k hk; obtain ⟨k', h1, h2, _⟩ := O52.out.lt; rw [h1] at hk; injection hk with hk; omega)
          have O63 : Hid (Own w3 w.heap.size (.slice (some ⟨g6, 0, none⟩) R.length c6) R) := (O6b.out.alloc _).kept hg5'.out (Ne.symm Hne.out)
          have hs3 : w2.heap.size ≤ w3.heap.size := by have := hg5'.out.size; simp at this; omega
          clear x0 x1 x2 y0 y1 y2 O6b Hn5 hg5' tv2 O52
          refine (not_c v _).mono ?_
          rintro e w4 ⟨rfl, hb4⟩
          have O54 : Hid (Own w4 w.heap.size v5 (xs ++ [v])) := o5.after hb4
          have O64 : Hid (Own w4 w.heap.size (.slice (some ⟨g6, 0, none⟩) R.length c6) R) := O63.out.after hb4
          have hbd := hb3.trans (hb4.mono hb3.size)
          have hn5 : v5.ownBlock ≠ some w4.heap.size := by obtain ⟨k, h1, _, h2⟩ := O54.out.lt; rw [h1]; intro e; injection e with e; omega
          clear o5 O63 hb3 hb4 tv3
          go_wp2_with (at_builtin; go_must (refine wpList_app rfl (.tmp 70) (.tmp 71) rfl w.heap.size (.slice (some ⟨w4.heap.size, 0, none⟩) 1 1) [nt v] R g6 c6 rfl (own_one w4 _ (nt v) hbd.size) rfl (O64.out.alloc _) (by have := HRl.out; simp; omega) (by have := hbd.size; simp; omega) ?_; intro v6 w5 o6 hg6 hat6))
          have hv6 : v5.ownBlock ≠ v6.ownBlock := by
            obtain ⟨k, h1, _, h2⟩ := O54.out.lt
            rw [h1]
            rcases hat6 with h | h
            · rw [h]; intro e; injection e with e; simp at e; omega
            · rw [h]; intro e; injection e with e; simp at e; omega
          have O55 : Hid (Own w5 w.heap.size v5 (xs ++ [v])) := (O54.out.alloc _).kept hg6 hn5
          have hbe := (hbd.alloc hbd.size _).grown hg6 (by have := hbd.size; simp; omega) (by intro k hk; injection hk with hk; simp at hk; have := hbd.size; omega)
          have O65 : Hid (Own w5 w.heap.size v6 ((xs ++ [v]).map nt).reverse) := by
            have e : ((xs ++ [v]).map nt).reverse = [nt v] ++ R := by rw [← HR.out]; simp
            show Own _ _ _ _
            rw [e]; exact o6
          have Hv6 := Lib.hid hv6
          clear hat6 hg6 hn5 O54 O64 o6 hv6
          go_wp2_with fail
          go_roundw
          case rel => exact ⟨_, xs ++ [v], by rw [Hl.out, Hl'.out]; exact hlt, by rw [take_snoc _ _ _ Hv.out, Hxs.out], by go_num, O55.out, O65.out, Hv6.out, hbe⟩
          case measure => simp [intOf]; omega
        · go_wp2_with fail
          go_ret
          exact ⟨rfl, hb2⟩
    · have hxl : xs.length ≤ maxLen := by rw [Hxs.out]; exact Nat.le_trans (List.length_take_le _ _) (by unfold maxLen; omega)
      have hx : xs = ls ++ ms := by rw [Hxs.out]; exact List.take_of_length_le (by rw [List.length_append, Hl.out, Hl'.out]; omega)
      have HX := Lib.hid hx
      obtain ⟨R, hR⟩ : ∃ R, (xs.map nt).reverse = R := ⟨_, rfl⟩
      have HRl : Hid (R.length ≤ maxLen) := by show R.length ≤ maxLen; rw [← hR]; simpa using hxl
      have Hxl := Lib.hid hxl
      have HR := Lib.hid hR
      have O6b : Hid (Own wr w.heap.size u6 R) := hR ▸ O6.out
      obtain ⟨⟨g5, c5, h5⟩, _⟩ := O5.out
      subst h5
      obtain ⟨⟨g6, c6, h6⟩, _⟩ := O6b.out
      subst h6
      have S5 : Hid (Sl wr (some ⟨g5, 0, none⟩) xs) := O5.out.sl
      have S6 : Hid (Sl wr (some ⟨g6, 0, none⟩) R) := O6b.out.sl
      have SA : Hid (Sl wr A ls) := Hs.out.after hbr
      have SB : Hid (Sl wr A' ms) := Hs'.out.after hbr
      clear hxl hx hR O5 O6 O6b Hs Hs' Hne Hxs
      go_wp2_with fail
      refine (and_c _ _ c5 xs wr rfl Hxl.out S5.out).mono ?_
      rintro e w2 ⟨rfl, hb2⟩
      have S5a : Hid (Sl w2 (some ⟨g5, 0, none⟩) xs) := S5.out.after hb2
      have S6a : Hid (Sl w2 (some ⟨g6, 0, none⟩) R) := S6.out.after hb2
      have SAa : Hid (Sl w2 A ls) := SA.out.after hb2
      have SBa : Hid (Sl w2 A' ms) := SB.out.after hb2
      have hbw := hbr.trans (hb2.mono hbr.size)
      clear S5 S6 SA SB hb2 hbr
      go_wp2_with fail
      refine (or_c _ _ c5 xs w2 rfl Hxl.out S5a.out).mono ?_
      rintro e w3 ⟨rfl, hb3⟩
      have S6b : Hid (Sl w3 (some ⟨g6, 0, none⟩) R) := S6a.out.after hb3
      have SAb : Hid (Sl w3 A ls) := SAa.out.after hb3
      have SBb : Hid (Sl w3 A' ms) := SBa.out.after hb3
      have hbx := hbw.trans (hb3.mono hbw.size)
      clear S5a S6a SAa SBa hb3 hbw
      go_wp2_with fail
      have ta : Bx ((w3.alloc (.cells #[.int .i64 (andV xs).k, .int .i64 (andV xs).n, .string (andV xs).s] 25)).alloc (.cells #[.int .i64 (orV xs).k, .int .i64 (orV xs).n, .string (orV xs).s] 25)) w3.heap.size (andV xs) := (Bx.new w3 (andV xs)).alloc _
      have tq : Bx ((w3.alloc (.cells #[.int .i64 (andV xs).k, .int .i64 (andV xs).n, .string (andV xs).s] 25)).alloc (.cells #[.int .i64 (orV xs).k, .int .i64 (orV xs).n, .string (orV xs).s] 25)) (w3.heap.size + 1) (orV xs) := Bx.new1 w3 (orV xs) _
      have hB2 := below_two w3 (.cells #[.int .i64 (andV xs).k, .int .i64 (andV xs).n, .string (andV xs).s] 25) (.cells #[.int .i64 (orV xs).k, .int .i64 (orV xs).n, .string (orV xs).s] 25)
      have s6 : Hid (Sl ((w3.alloc (.cells #[.int .i64 (andV xs).k, .int .i64 (andV xs).n, .string (andV xs).s] 25)).alloc (.cells #[.int .i64 (orV xs).k, .int .i64 (orV xs).n, .string (orV xs).s] 25)) (some ⟨g6, 0, none⟩) R) := S6b.out.after hB2
      have sa : Hid (Sl ((w3.alloc (.cells #[.int .i64 (andV xs).k, .int .i64 (andV xs).n, .string (andV xs).s] 25)).alloc (.cells #[.int .i64 (orV xs).k, .int .i64 (orV xs).n, .string (orV xs).s] 25)) A ls) := SAb.out.after hB2
      have sb : Hid (Sl ((w3.alloc (.cells #[.int .i64 (andV xs).k, .int .i64 (andV xs).n, .string (andV xs).s] 25)).alloc (.cells #[.int .i64 (orV xs).k, .int .i64 (orV xs).n, .string (orV xs).s] 25)) A' ms) := SBb.out.after hB2
      have hbz := hbx.trans (hB2.mono hbx.size)
      clear S6b SAb SBb hB2 hbx
      generalize ((w3.alloc (.cells #[.int .i64 (andV xs).k, .int .i64 (andV xs).n, .string (andV xs).s] 25)).alloc (.cells #[.int .i64 (orV xs).k, .int .i64 (orV xs).n, .string (orV xs).s] 25)) = w4 at *
      refine Reg.wp_region_free mixed (by kernel_rfl) [(77, (andV xs).v), (78, (orV R).v), (79, .slice (some ⟨g6, 0, none⟩) R.length c6), (80, (orV R).v), (81, .bool true), (82, .bool true), (83, (orV xs).v), (84, (andV R).v), (85, .slice (some ⟨g6, 0, none⟩) R.length c6), (86, (andV R).v), (87, .bool true), (88, .bool true), (89, .bool true), (90, (andV xs).v), (91, .slice A n c), (92, (andV ls).v), (93, .slice A' n' c'), (94, (andV ms).v), (96, (andV xs).v), (97, .bool true), (98, .bool true), (99, .bool true), (100, (orV xs).v), (101, .slice A' n' c'), (102, (orV ms).v), (103, .slice A n c), (104, (orV ls).v), (106, (orV xs).v), (107, .bool true), (108, .bool true), (4, .bool true)] [95, 105] (fun i => if i == 18 then [95] else if i == 28 then [105] else []) (slP 18 28 [andV ls, andV ms] [orV ms, orV ls]) 109 rfl (by kernel_rfl) ?_ ?_
      · intro g F hF hn hv w' hB
        have ta' := ta.after hB
        have tq' := tq.after hB
        have s6' := s6.out.after hB
        have sa' := sa.out.after hB
        have sb' := sb.out.after hB
        have hBw : w4.heap.size ≤ w'.heap.size := hB.size
        refine ⟨?_, ?_, ?_, ?_, ?_, ?_, ?_, ?_, ?_, ?_, ?_, ?_, ?_, ?_, ?_, ?_, ?_, ?_, ?_, ?_, ?_, ?_, ?_, ?_, ?_, ?_, ?_, ?_, ?_, ?_, ?_, ?_, ?_, trivial⟩
        · exact fun _ => Reg.does_exact hn hv (slP_stab 18 28 [andV ls, andV ms] [orV ms, orV ls]) hBw (fun _ _ => trivial) rfl (Reg.doesV_val (ev_load ta' rfl (by rw [hF]; kernel_rfl)) (by rw [hF]; kernel_rfl) (by rw [hF]; kernel_rfl))
        · exact fun _ => Reg.does_exact hn hv (slP_stab 18 28 [andV ls, andV ms] [orV ms, orV ls]) hBw (fun _ _ => trivial) rfl (Reg.doesV_call (by have h := not_c (andV xs) w'; rw [nt_and, HR.out] at h; exact h) (ev_call enNot rfl (by rw [hF]; kernel_rfl)) (by rw [hF]; kernel_rfl) (by rw [hF]; kernel_rfl))
        · exact fun _ => Reg.does_exact hn hv (slP_stab 18 28 [andV ls, andV ms] [orV ms, orV ls]) hBw (fun _ _ => trivial) rfl (Reg.doesV_val (ev_move rfl) (by rw [hF]; kernel_rfl) (by rw [hF]; kernel_rfl))
        · exact fun _ => Reg.does_exact hn hv (slP_stab 18 28 [andV ls, andV ms] [orV ms, orV ls]) hBw (fun _ _ => trivial) rfl (Reg.doesV_call (or_c _ _ c6 R w' rfl HRl.out s6') (ev_call enOr rfl (by rw [hF]; kernel_rfl)) (by rw [hF]; kernel_rfl) (by rw [hF]; kernel_rfl))
        · exact fun _ => Reg.does_exact hn hv (slP_stab 18 28 [andV ls, andV ms] [orV ms, orV ls]) hBw (fun _ _ => trivial) rfl (Reg.doesV_val (by rw [ev_eq (orV R) (orV R) rfl (by rw [hF]; kernel_rfl) (by rw [hF]; kernel_rfl), Val.eq_self]) (by rw [hF]; kernel_rfl) (by rw [hF]; kernel_rfl))
        · exact fun _ => Reg.does_exact hn hv (slP_stab 18 28 [andV ls, andV ms] [orV ms, orV ls]) hBw (fun _ _ => trivial) rfl (Reg.doesV_val (ev_move rfl) (by rw [hF]; kernel_rfl) (by rw [hF]; kernel_rfl))
        · exact fun _ => Reg.does_exact hn hv (slP_stab 18 28 [andV ls, andV ms] [orV ms, orV ls]) hBw (fun _ _ => trivial) rfl (Reg.doesV_val (ev_load tq' rfl (by rw [hF]; kernel_rfl)) (by rw [hF]; kernel_rfl) (by rw [hF]; kernel_rfl))
        · exact fun _ => Reg.does_exact hn hv (slP_stab 18 28 [andV ls, andV ms] [orV ms, orV ls]) hBw (fun _ _ => trivial) rfl (Reg.doesV_call (by have h := not_c (orV xs) w'; rw [nt_or, HR.out] at h; exact h) (ev_call enNot rfl (by rw [hF]; kernel_rfl)) (by rw [hF]; kernel_rfl) (by rw [hF]; kernel_rfl))
        · exact fun _ => Reg.does_exact hn hv (slP_stab 18 28 [andV ls, andV ms] [orV ms, orV ls]) hBw (fun _ _ => trivial) rfl (Reg.doesV_val (ev_move rfl) (by rw [hF]; kernel_rfl) (by rw [hF]; kernel_rfl))
        · exact fun _ => Reg.does_exact hn hv (slP_stab 18 28 [andV ls, andV ms] [orV ms, orV ls]) hBw (fun _ _ => trivial) rfl (Reg.doesV_call (and_c _ _ c6 R w' rfl HRl.out s6') (ev_call enAnd rfl (by rw [hF]; kernel_rfl)) (by rw [hF]; kernel_rfl) (by rw [hF]; kernel_rfl))
        · exact fun _ => Reg.does_exact hn hv (slP_stab 18 28 [andV ls, andV ms] [orV ms, orV ls]) hBw (fun _ _ => trivial) rfl (Reg.doesV_val (by rw [ev_eq (andV R) (andV R) rfl (by rw [hF]; kernel_rfl) (by rw [hF]; kernel_rfl), Val.eq_self]) (by rw [hF]; kernel_rfl) (by rw [hF]; kernel_rfl))
        · exact fun _ => Reg.does_exact hn hv (slP_stab 18 28 [andV ls, andV ms] [orV ms, orV ls]) hBw (fun _ _ => trivial) rfl (Reg.doesV_val (ev_pick true rfl (by rw [hF]; kernel_rfl)) (by rw [hF]; kernel_rfl) (by rw [hF]; kernel_rfl))
        · exact fun _ => Reg.does_exact hn hv (slP_stab 18 28 [andV ls, andV ms] [orV ms, orV ls]) hBw (fun _ _ => trivial) rfl (Reg.doesV_val (ev_move rfl) (by rw [hF]; kernel_rfl) (by rw [hF]; kernel_rfl))
        · exact fun _ => Reg.does_exact hn hv (slP_stab 18 28 [andV ls, andV ms] [orV ms, orV ls]) hBw (fun _ _ => trivial) rfl (Reg.doesV_val (ev_load ta' rfl (by rw [hF]; kernel_rfl)) (by rw [hF]; kernel_rfl) (by rw [hF]; kernel_rfl))
        · exact fun _ => Reg.does_exact hn hv (slP_stab 18 28 [andV ls, andV ms] [orV ms, orV ls]) hBw (fun _ _ => trivial) rfl (Reg.doesV_val (ev_move rfl) (by rw [hF]; kernel_rfl) (by rw [hF]; kernel_rfl))
        · exact fun _ => Reg.does_exact hn hv (slP_stab 18 28 [andV ls, andV ms] [orV ms, orV ls]) hBw (fun _ _ => trivial) rfl (Reg.doesV_call (and_c _ n c ls w' Hl.out (by unfold maxLen; omega) sa') (ev_call enAnd rfl (by rw [hF]; kernel_rfl)) (by rw [hF]; kernel_rfl) (by rw [hF]; kernel_rfl))
        · exact fun _ => Reg.does_exact hn hv (slP_stab 18 28 [andV ls, andV ms] [orV ms, orV ls]) hBw (fun _ _ => trivial) rfl (Reg.doesV_val (ev_move rfl) (by rw [hF]; kernel_rfl) (by rw [hF]; kernel_rfl))
        · exact fun _ => Reg.does_exact hn hv (slP_stab 18 28 [andV ls, andV ms] [orV ms, orV ls]) hBw (fun _ _ => trivial) rfl (Reg.doesV_call (and_c _ n' c' ms w' Hl'.out (by unfold maxLen; omega) sb') (ev_call enAnd rfl (by rw [hF]; kernel_rfl)) (by rw [hF]; kernel_rfl) (by rw [hF]; kernel_rfl))
        · exact fun _ => Reg.does_free (d := 95) hn (slP_stab 18 28 [andV ls, andV ms] [orV ms, orV ls]) hBw rfl (by decide) (by kernel_rfl) rfl (ev_build2 (andV ls) (andV ms) rfl (by rw [hF]; kernel_rfl) (by rw [hF]; kernel_rfl)) (by rw [hF]; kernel_rfl) (below_one _ _) ⟨_, rfl, Sl.new2 w' (andV ls) (andV ms)⟩
        · intro hpre
          obtain ⟨b, h35, hsl⟩ := hpre 18 (of_decide_eq_true (by kernel_rfl))
          have h35' : F.eval (.tmp 95) = .slice (some ⟨b, 0, none⟩) 2 2 := List.head_eq_of_cons_eq h35
          exact Reg.does_exact hn hv (slP_stab 18 28 [andV ls, andV ms] [orV ms, orV ls]) hBw (fun _ _ => trivial) rfl (Reg.doesV_call (by have h := and_c (some ⟨b, 0, none⟩) 2 2 [andV ls, andV ms] w' rfl (by decide) hsl; rw [← and_parts, ← HX.out] at h; exact h) (ev_call enAnd rfl (by simp only [List.map_toArray, List.map_cons, List.map_nil, h35'])) (by rw [hF]; kernel_rfl) (by rw [hF]; kernel_rfl))
        · exact fun _ => Reg.does_exact hn hv (slP_stab 18 28 [andV ls, andV ms] [orV ms, orV ls]) hBw (fun _ _ => trivial) rfl (Reg.doesV_val (by rw [ev_eq (andV xs) (andV xs) rfl (by rw [hF]; kernel_rfl) (by rw [hF]; kernel_rfl), Val.eq_self]) (by rw [hF]; kernel_rfl) (by rw [hF]; kernel_rfl))
        · exact fun _ => Reg.does_exact hn hv (slP_stab 18 28 [andV ls, andV ms] [orV ms, orV ls]) hBw (fun _ _ => trivial) rfl (Reg.doesV_val (ev_pick true rfl (by rw [hF]; kernel_rfl)) (by rw [hF]; kernel_rfl) (by rw [hF]; kernel_rfl))
        · exact fun _ => Reg.does_exact hn hv (slP_stab 18 28 [andV ls, andV ms] [orV ms, orV ls]) hBw (fun _ _ => trivial) rfl (Reg.doesV_val (ev_move rfl) (by rw [hF]; kernel_rfl) (by rw [hF]; kernel_rfl))
        · exact fun _ => Reg.does_exact hn hv (slP_stab 18 28 [andV ls, andV ms] [orV ms, orV ls]) hBw (fun _ _ => trivial) rfl (Reg.doesV_val (ev_load tq' rfl (by rw [hF]; kernel_rfl)) (by rw [hF]; kernel_rfl) (by rw [hF]; kernel_rfl))
        · exact fun _ => Reg.does_exact hn hv (slP_stab 18 28 [andV ls, andV ms] [orV ms, orV ls]) hBw (fun _ _ => trivial) rfl (Reg.doesV_val (ev_move rfl) (by rw [hF]; kernel_rfl) (by rw [hF]; kernel_rfl))
        · exact fun _ => Reg.does_exact hn hv (slP_stab 18 28 [andV ls, andV ms] [orV ms, orV ls]) hBw (fun _ _ => trivial) rfl (Reg.doesV_call (or_c _ n' c' ms w' Hl'.out (by unfold maxLen; omega) sb') (ev_call enOr rfl (by rw [hF]; kernel_rfl)) (by rw [hF]; kernel_rfl) (by rw [hF]; kernel_rfl))
        · exact fun _ => Reg.does_exact hn hv (slP_stab 18 28 [andV ls, andV ms] [orV ms, orV ls]) hBw (fun _ _ => trivial) rfl (Reg.doesV_val (ev_move rfl) (by rw [hF]; kernel_rfl) (by rw [hF]; kernel_rfl))
        · exact fun _ => Reg.does_exact hn hv (slP_stab 18 28 [andV ls, andV ms] [orV ms, orV ls]) hBw (fun _ _ => trivial) rfl (Reg.doesV_call (or_c _ n c ls w' Hl.out (by unfold maxLen; omega) sa') (ev_call enOr rfl (by rw [hF]; kernel_rfl)) (by rw [hF]; kernel_rfl) (by rw [hF]; kernel_rfl))
        · exact fun _ => Reg.does_free (d := 105) hn (slP_stab 18 28 [andV ls, andV ms] [orV ms, orV ls]) hBw rfl (by decide) (by kernel_rfl) rfl (ev_build2 (orV ms) (orV ls) rfl (by rw [hF]; kernel_rfl) (by rw [hF]; kernel_rfl)) (by rw [hF]; kernel_rfl) (below_one _ _) ⟨_, rfl, Sl.new2 w' (orV ms) (orV ls)⟩
        · intro hpre
          obtain ⟨b, h35, hsl⟩ := hpre 28 (of_decide_eq_true (by kernel_rfl))
          have h35' : F.eval (.tmp 105) = .slice (some ⟨b, 0, none⟩) 2 2 := List.head_eq_of_cons_eq h35
          exact Reg.does_exact hn hv (slP_stab 18 28 [andV ls, andV ms] [orV ms, orV ls]) hBw (fun _ _ => trivial) rfl (Reg.doesV_call (by have h := or_c (some ⟨b, 0, none⟩) 2 2 [orV ms, orV ls] w' rfl (by decide) hsl; rw [← or_parts, ← HX.out] at h; exact h) (ev_call enOr rfl (by simp only [List.map_toArray, List.map_cons, List.map_nil, h35'])) (by rw [hF]; kernel_rfl) (by rw [hF]; kernel_rfl))
        · exact fun _ => Reg.does_exact hn hv (slP_stab 18 28 [andV ls, andV ms] [orV ms, orV ls]) hBw (fun _ _ => trivial) rfl (Reg.doesV_val (by rw [ev_eq (orV xs) (orV xs) rfl (by rw [hF]; kernel_rfl) (by rw [hF]; kernel_rfl), Val.eq_self]) (by rw [hF]; kernel_rfl) (by rw [hF]; kernel_rfl))
        · exact fun _ => Reg.does_exact hn hv (slP_stab 18 28 [andV ls, andV ms] [orV ms, orV ls]) hBw (fun _ _ => trivial) rfl (Reg.doesV_val (ev_pick true rfl (by rw [hF]; kernel_rfl)) (by rw [hF]; kernel_rfl) (by rw [hF]; kernel_rfl))
        · exact fun _ => Reg.does_exact hn hv (slP_stab 18 28 [andV ls, andV ms] [orV ms, orV ls]) hBw (fun _ _ => trivial) rfl (Reg.doesV_val (ev_assign rfl) (by rw [hF]; kernel_rfl) (by rw [hF]; kernel_rfl))
      intro g F hF w5 hB _
      have hbf := hbz.trans (hB.mono hbz.size)
      rw [hF]
      clear hF
      simp only [Reg.fin, List.cons_append, List.nil_append, List.map_cons, List.map_nil, Reg.putAll, Act.put, List.setIfInBounds_toArray, List.set_cons_zero, List.set_cons_succ]
      go_wp2
      go_ret
      exact ⟨rfl, hbf⟩

theorem turns_c (A A' : Option Addr) (n n' c c' : Nat) (ls ms : List Val) (m : Int) (w : World) (hl : ls.length = n) (hl' : ms.length = n') (hn : n ≤ maxLen) (hn' : n' ≤ maxLen) (hs : Sl w A ls) (hs' : Sl w A' ms) (hm : w.cell? ⟨0, 0, none⟩ = some (.int .i64 m)) :
    Calls Tryd.prog 4 #[.slice A n c, .slice A' n' c'] w fun e w' => e = .returned (.bool true) ∧ Below w.heap.size w w' := by
  by_cases h : 60 < n ∨ 60 < n'
  · exact turns_long A A' n n' c c' m w h hn hn' hm
  · exact turns_short A A' n n' c c' ls ms m w (by omega) (by omega) hl hl' hs hs' hm
end Go.Proofs.YtacmfjhmicgpnaaDoor
