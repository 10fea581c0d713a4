/-
  Part 7 of 11 of what the proof leans on: each part below says what it proves, and of what; no condition besides.
-/
import Derived.Test.YtbpopkgpepmlcaaGreatR01
import Derived.Test.YtbpopkgpepmlcaaGreatR06
import Derived.Deep.RegionLaw
import Derived.Deep.AppendLies
set_option linter.unusedVariables false
set_option linter.unusedSimpArgs false
namespace Go.Proofs.YtbpopkgpepmlcaaGreat
open Go Go.RowKit
set_option maxRecDepth 100000
theorem rtruth_c (b : Bool) (w : World) : Calls Tryz.prog 49 #[.bool b] w fun e w' => e = .returned (tv b).v ∧ Below w.heap.size w w' := by
 cases b
 all_goals
  go_enter Tryz.func49, Tryz.ntmps49
  go_wp2
 · exact bodyPost_ret (v := ff.v) (by simp [results, Tryz.results49, go_sem, ff]) rfl ⟨rfl, (below_one _ _).alloc (by simp) _⟩
 · exact bodyPost_ret (v := tt.v) (by simp [results, Tryz.results49, go_sem, tt]) rfl ⟨rfl, (below_one _ _).alloc (by simp) _⟩
theorem enrTruth : ∀ args w, (callFunc 49 args).run Tryz.prog w = .ok (.enter 49 args) w := fun _ _ => by kernel_rfl
set_option maxRecDepth 100000
attribute [local go_sem ↓] run_eqV run_neV
end Go.Proofs.YtbpopkgpepmlcaaGreat
namespace Go.Proofs.YtbpopkgpepmlcaaGreat
open Go Go.RowKit
set_option maxRecDepth 100000
set_option maxRecDepth 100000
set_option maxHeartbeats 1000000 in
theorem rnot_t (a : Val) (w : World) (h1 : a.eq tt = true) : Calls Tryz.prog 78 #[a.v] w fun e w' => e = .returned ff.v ∧ Below w.heap.size w w' := by
 have H1 := Lib.hid h1
 clear h1
 go_enter Tryz.func78, Tryz.ntmps78
 go_wp2_with fail
 refine Reg.wp_region_vals mixed (by kernel_rfl) [(3, a.v), (4, tt.v), (5, .bool true)] 12 rfl (by kernel_rfl) ?_ ?_
 · intro F hF w' hB
   have hbx : Bx w' w.heap.size a := ((Bx.new w a).alloc _).after hB
   refine ⟨?_, ?_, ?_, trivial⟩
   · exact Reg.doesV_val (ev_load hbx rfl (by rw [hF]; kernel_rfl)) (by rw [hF]; kernel_rfl) (by rw [hF]; kernel_rfl)
   · exact Reg.doesV_call (rtruth_c true w') (ev_call enrTruth rfl (by rw [hF]; kernel_rfl)) (by rw [hF]; kernel_rfl) (by rw [hF]; kernel_rfl)
   · exact Reg.doesV_val (by rw [ev_eq a tt rfl (by rw [hF]; kernel_rfl) (by rw [hF]; kernel_rfl), H1.out]) (by rw [hF]; kernel_rfl) (by rw [hF]; kernel_rfl)
 · intro w' hB
   simp only [Reg.putAll, Act.put, List.setIfInBounds_toArray, List.set_cons_zero, List.set_cons_succ]
   have hbw : Below w.heap.size w w' := ((below_one _ _).alloc (by simp) _).trans (hB.mono (by simp; omega))
   have hres : Bx w' (w.heap.size + 1) nl := (Bx.new1 w nl _).below hB (by simp)
   clear hB
   go_wp2_with fail
   refine (rtruth_c false _).mono ?_
   rintro e w1 ⟨rfl, hb1⟩
   have hr1 := hres.after hb1
   have hbw1 := hbw.trans (hb1.mono hbw.size)
   clear hbw hres hb1
   have g0 := hr1.cell0
   have g1 := hr1.cell1
   have g2 := hr1.cell2
   have f0 := hr1.frozen 0
   have f1 := hr1.frozen 1
   have f2 := hr1.frozen 2
   go_wp2
   exact ret_val (a := ff) Tryz.results78 rfl (hr1.put ff) rfl ⟨rfl, put3_below hbw1 (by omega) ff⟩
set_option maxHeartbeats 1000000 in
theorem rnot_f (a : Val) (w : World) (h1 : a.eq tt = false) (b : Bool) (h2 : a.eq ff = b) : Calls Tryz.prog 78 #[a.v] w fun e w' => e = .returned (if b then tt else nl).v ∧ Below w.heap.size w w' := by
 have H1 := Lib.hid h1
 have H2 := Lib.hid h2
 clear h1 h2
 go_enter Tryz.func78, Tryz.ntmps78
 go_wp2_with fail
 refine Reg.wp_region_vals mixed (by kernel_rfl) [(3, a.v), (4, tt.v), (5, .bool false)] 12 rfl (by kernel_rfl) ?_ ?_
 · intro F hF w' hB
   have hbx : Bx w' w.heap.size a := ((Bx.new w a).alloc _).after hB
   refine ⟨?_, ?_, ?_, trivial⟩
   · exact Reg.doesV_val (ev_load hbx rfl (by rw [hF]; kernel_rfl)) (by rw [hF]; kernel_rfl) (by rw [hF]; kernel_rfl)
   · exact Reg.doesV_call (rtruth_c true w') (ev_call enrTruth rfl (by rw [hF]; kernel_rfl)) (by rw [hF]; kernel_rfl) (by rw [hF]; kernel_rfl)
   · exact Reg.doesV_val (by rw [ev_eq a tt rfl (by rw [hF]; kernel_rfl) (by rw [hF]; kernel_rfl), H1.out]) (by rw [hF]; kernel_rfl) (by rw [hF]; kernel_rfl)
 · intro w' hB
   simp only [Reg.putAll, Act.put, List.setIfInBounds_toArray, List.set_cons_zero, List.set_cons_succ]
   have hbw : Below w.heap.size w w' := ((below_one _ _).alloc (by simp) _).trans (hB.mono (by simp; omega))
   have hres : Bx w' (w.heap.size + 1) nl := (Bx.new1 w nl _).below hB (by simp)
   have harg : Bx w' w.heap.size a := ((Bx.new w a).alloc _).after hB
   clear hB
   go_wp2_with fail
   refine Reg.wp_region_vals mixed (by kernel_rfl) [(7, a.v), (8, ff.v), (9, .bool b)] 12 rfl (by kernel_rfl) ?_ ?_
   · intro F hF w2 hB
     have hbx : Bx w2 w.heap.size a := harg.after hB
     refine ⟨?_, ?_, ?_, trivial⟩
     · exact Reg.doesV_val (ev_load hbx rfl (by rw [hF]; kernel_rfl)) (by rw [hF]; kernel_rfl) (by rw [hF]; kernel_rfl)
     · exact Reg.doesV_call (rtruth_c false w2) (ev_call enrTruth rfl (by rw [hF]; kernel_rfl)) (by rw [hF]; kernel_rfl) (by rw [hF]; kernel_rfl)
     · exact Reg.doesV_val (by rw [ev_eq a ff rfl (by rw [hF]; kernel_rfl) (by rw [hF]; kernel_rfl), H2.out]) (by rw [hF]; kernel_rfl) (by rw [hF]; kernel_rfl)
   · intro w2 hB
     simp only [Reg.putAll, Act.put, List.setIfInBounds_toArray, List.set_cons_zero, List.set_cons_succ]
     have hbw2 := hbw.trans (hB.mono hbw.size)
     have hres2 := hres.after hB
     clear hB hbw hres harg
     cases b
     · have g0 := hres2.cell0
       have g1 := hres2.cell1
       have g2 := hres2.cell2
       have f0 := hres2.frozen 0
       have f1 := hres2.frozen 1
       have f2 := hres2.frozen 2
       go_wp2
       exact ret_val (a := nl) Tryz.results78 rfl (hres2.put nl) rfl ⟨rfl, put3_below hbw2 (by omega) nl⟩
     · go_wp2_with fail
       refine (rtruth_c true _).mono ?_
       rintro e w1 ⟨rfl, hb1⟩
       have hr1 := hres2.after hb1
       have hbw1 := hbw2.trans (hb1.mono hbw2.size)
       clear hbw2 hres2 hb1
       have g0 := hr1.cell0
       have g1 := hr1.cell1
       have g2 := hr1.cell2
       have f0 := hr1.frozen 0
       have f1 := hr1.frozen 1
       have f2 := hr1.frozen 2
       go_wp2
       exact ret_val (a := tt) Tryz.results78 rfl (hr1.put tt) rfl ⟨rfl, put3_below hbw1 (by omega) tt⟩
theorem rnot_c (a : Val) (w : World) : Calls Tryz.prog 78 #[a.v] w fun e w' => e = .returned (nt a).v ∧ Below w.heap.size w w' := by
 cases h1 : a.eq tt
 · have e : nt a = if a.eq ff then tt else nl := by unfold nt; rw [h1]; rfl
   rw [e]
   exact rnot_f a w h1 _ rfl
 · have e : nt a = ff := by unfold nt; rw [h1]; rfl
   rw [e]
   exact rnot_t a w h1
def ra (strong weak : Val) : Bool → List Val → Val
 | all, [] => if all then weak else nl
 | all, v :: r => if v.eq strong then strong else ra strong weak (all && v.eq weak) r
theorem ra_drop (strong weak : Val) (all : Bool) (vs : List Val) (k : Nat) (v : Val) (h : vs[k]? = some v) :
 ra strong weak all (vs.drop k) = if v.eq strong then strong else ra strong weak (all && v.eq weak) (vs.drop (k + 1)) := by
 have hlt : k < vs.length := (List.getElem?_eq_some_iff.1 h).1
 have hv : vs[k] = v := (List.getElem?_eq_some_iff.1 h).2
 rw [List.drop_eq_getElem_cons hlt, hv, ra]
theorem ra_dec (strong weak : Val) : ∀ (vs : List Val) (all : Bool), ra strong weak all vs = dec strong weak (if all then weak else nl) vs
 | [], all => rfl
 | v :: r, all => by
   rw [ra, dec]
   cases v.eq strong
   · rw [if_neg (by simp), if_neg (by simp), ra_dec strong weak r]
     cases all <;> cases v.eq weak <;> rfl
   · rfl
set_option maxHeartbeats 600000 in
theorem rand_some (b off n c : Nat) (vs : List Val) (w : World) (hn : vs.length = n) (hmax : n ≤ maxLen) (hlt : b < w.heap.size)
 (hs : ∀ i (a : Val), vs[i]? = some a → w.cell? ⟨b, off + i * 3, none⟩ = some (.int .i64 a.k) ∧ w.cell? ⟨b, off + i * 3 + 1, none⟩ = some (.int .i64 a.n) ∧ w.cell? ⟨b, off + i * 3 + 2, none⟩ = some (.string a.s)) :
 Calls Tryz.prog 76 #[.slice (some ⟨b, off, none⟩) n c] w fun e w' => e = .returned (ra ff tt true vs).v ∧ Below w.heap.size w w' := by
 unfold maxLen at hmax
 have Hn := Lib.hid hn
 have Hs := Lib.hid hs
 clear hn hs
 go_enter Tryz.func76, Tryz.ntmps76
 go_wp2_with fail
 go_loopw [3, 4] (fun x i wr => ∃ (k : Nat) (all : Bool), k ≤ n ∧ x = .bool all ∧ i = .int .i64 k ∧ Bx wr w.heap.size nl ∧ Below w.heap.size w wr ∧ Hid (ra ff tt all (vs.drop k) = ra ff tt true vs))
  (fun _ i _ => n - (intOf i).toNat)
 case atStart => exact ⟨0, true, Nat.zero_le _, rfl, rfl, Bx.new w nl, below_one _ _, rfl⟩
 case round =>
  obtain ⟨k, all, hk, rfl, rfl, br, hbr, hinv⟩ := hrel
  by_cases hlt' : k < n
  · obtain ⟨v, hv⟩ : ∃ v, vs[k]? = some v := ⟨vs[k]'(by rw [Hn.out]; exact hlt'), List.getElem?_eq_getElem _⟩
    obtain ⟨c0, c1, c2⟩ := Hs.out k v hv
    have d0 : Hid (wr.cell? ⟨b, off + k * 3, none⟩ = some (.int .i64 v.k)) := (hbr.cell (p := ⟨b, off + k * 3, none⟩) hlt).trans c0
    have d1 : Hid (wr.cell? ⟨b, off + k * 3 + 1, none⟩ = some (.int .i64 v.n)) := (hbr.cell (p := ⟨b, off + k * 3 + 1, none⟩) hlt).trans c1
    have d2 : Hid (wr.cell? ⟨b, off + k * 3 + 2, none⟩ = some (.string v.s)) := (hbr.cell (p := ⟨b, off + k * 3 + 2, none⟩) hlt).trans c2
    have hbl : b < wr.heap.size := Nat.lt_of_lt_of_le hlt hbr.size
    have Hv := Lib.hid hv
    clear c0 c1 c2 hv
    have hstep := ra_drop ff tt all vs k v Hv.out
    obtain ⟨es, hes⟩ : ∃ es, v.eq ff = es := ⟨_, rfl⟩
    obtain ⟨ew, hew⟩ : ∃ ew, v.eq tt = ew := ⟨_, rfl⟩
    rw [hes, hew] at hstep
    have Hes := Lib.hid hes
    have Hew := Lib.hid hew
    have Hst := Lib.hid hstep
    clear hstep hes hew
    go_wp2_with fail
    refine Reg.wp_region_vals mixed (by kernel_rfl) [(11, .slice (some ⟨b, off, none⟩) n c), (12, .int .i64 k), (13, .pointer (some ⟨b, off + k * 3, none⟩)), (14, v.v), (15, ff.v), (16, .bool es)] 30 rfl (by kernel_rfl) ?_ ?_
    · intro F hF w' hB
      have e0 := (hB.cell (p := ⟨b, off + k * 3, none⟩) hbl).trans d0.out
      have e1 := (hB.cell (p := ⟨b, off + k * 3 + 1, none⟩) hbl).trans d1.out
      have e2 := (hB.cell (p := ⟨b, off + k * 3 + 2, none⟩) hbl).trans d2.out
      refine ⟨?_, ?_, ?_, ?_, ?_, ?_, trivial⟩
      · exact Reg.doesV_val (ev_move rfl) (by rw [hF]; kernel_rfl) (by rw [hF]; kernel_rfl)
      · exact Reg.doesV_val (ev_move rfl) (by rw [hF]; kernel_rfl) (by rw [hF]; kernel_rfl)
      · exact Reg.doesV_val (ev_index (b := b) (off := off) (c := c) hlt' rfl (by rw [hF]; kernel_rfl) (by rw [hF]; kernel_rfl)) (by rw [hF]; kernel_rfl) (by rw [hF]; kernel_rfl)
      · exact Reg.doesV_val (ev_load3 e0 e1 e2 rfl (by rw [hF]; kernel_rfl)) (by rw [hF]; kernel_rfl) (by rw [hF]; kernel_rfl)
      · exact Reg.doesV_call (rtruth_c false w') (ev_call enrTruth rfl (by rw [hF]; kernel_rfl)) (by rw [hF]; kernel_rfl) (by rw [hF]; kernel_rfl)
      · exact Reg.doesV_val (by rw [ev_eq v ff rfl (by rw [hF]; kernel_rfl) (by rw [hF]; kernel_rfl), Hes.out]) (by rw [hF]; kernel_rfl) (by rw [hF]; kernel_rfl)
    · intro w2 hB
      simp only [Reg.putAll, Act.put, List.setIfInBounds_toArray, List.set_cons_zero, List.set_cons_succ]
      have hb2 := hbr.trans (hB.mono hbr.size)
      have br2 := br.after hB
      have hbl2 : b < w2.heap.size := Nat.lt_of_lt_of_le hbl hB.size
      have d0 : Hid (w2.cell? ⟨b, off + k * 3, none⟩ = some (.int .i64 v.k)) := (hB.cell (p := ⟨b, off + k * 3, none⟩) hbl).trans d0.out
      have d1 : Hid (w2.cell? ⟨b, off + k * 3 + 1, none⟩ = some (.int .i64 v.n)) := (hB.cell (p := ⟨b, off + k * 3 + 1, none⟩) hbl).trans d1.out
      have d2 : Hid (w2.cell? ⟨b, off + k * 3 + 2, none⟩ = some (.string v.s)) := (hB.cell (p := ⟨b, off + k * 3 + 2, none⟩) hbl).trans d2.out
      clear hB hbr br hbl
      cases es
      · go_wp2_with fail
        cases all
        · refine Reg.wp_region_late mixed (by kernel_rfl) [(18, .bool false), (19, .bool false), (20, undef), (21, undef), (22, undef), (23, undef), (24, undef), (25, undef), (26, .bool false)] [(3, .bool false)] (fun i => i == 0) 30 rfl (by kernel_rfl) ?_ ?_
          · intro E F hE hF w' hB
            refine ⟨?_, ?_, ?_, ?_, ?_, ?_, ?_, ?_, ?_, ?_, trivial⟩
            · exact Reg.doesV_val (ev_move rfl) (by rw [hE]; kernel_rfl) (by rw [hE, hF]; kernel_rfl)
            · exact Reg.doesV_val (ev_move rfl) (by rw [hF]; kernel_rfl) (by rw [hF]; kernel_rfl)
            · exact Reg.doesV_skip (by rw [hF]; kernel_rfl) (by rw [hF]; kernel_rfl)
            · exact Reg.doesV_skip (by rw [hF]; kernel_rfl) (by rw [hF]; kernel_rfl)
            · exact Reg.doesV_skip (by rw [hF]; kernel_rfl) (by rw [hF]; kernel_rfl)
            · exact Reg.doesV_skip (by rw [hF]; kernel_rfl) (by rw [hF]; kernel_rfl)
            · exact Reg.doesV_skip (by rw [hF]; kernel_rfl) (by rw [hF]; kernel_rfl)
            · exact Reg.doesV_skip (by rw [hF]; kernel_rfl) (by rw [hF]; kernel_rfl)
            · exact Reg.doesV_val (ev_pick false rfl (by rw [hF]; kernel_rfl)) (by rw [hF]; kernel_rfl) (by rw [hF]; kernel_rfl)
            · exact Reg.doesV_val (ev_assign rfl) (by rw [hF]; kernel_rfl) (by rw [hF]; kernel_rfl)
          · intro w3 hB
            simp only [List.cons_append, List.nil_append, Reg.putAll, Act.put, List.setIfInBounds_toArray, List.set_cons_zero, List.set_cons_succ]
            have hb3 := hb2.trans (hB.mono hb2.size)
            have br3 := br2.after hB
            clear hB hb2 br2 hbl2
            go_wp2
            go_roundw
            case rel => exact ⟨k + 1, false, by omega, rfl, by go_num, br3, hb3, Hst.out.symm.trans hinv.out⟩
            case measure => simp [intOf]; omega
        · refine Reg.wp_region_late mixed (by kernel_rfl) [(18, .bool true), (19, .bool true), (20, .slice (some ⟨b, off, none⟩) n c), (21, .int .i64 k), (22, .pointer (some ⟨b, off + k * 3, none⟩)), (23, v.v), (24, tt.v), (25, .bool ew), (26, .bool ew)] [(3, .bool ew)] (fun i => i == 0) 30 rfl (by kernel_rfl) ?_ ?_
          · intro E F hE hF w' hB
            have e0 := (hB.cell (p := ⟨b, off + k * 3, none⟩) hbl2).trans d0.out
            have e1 := (hB.cell (p := ⟨b, off + k * 3 + 1, none⟩) hbl2).trans d1.out
            have e2 := (hB.cell (p := ⟨b, off + k * 3 + 2, none⟩) hbl2).trans d2.out
            refine ⟨?_, ?_, ?_, ?_, ?_, ?_, ?_, ?_, ?_, ?_, trivial⟩
            · exact Reg.doesV_val (ev_move rfl) (by rw [hE]; kernel_rfl) (by rw [hE, hF]; kernel_rfl)
            · exact Reg.doesV_val (ev_move rfl) (by rw [hF]; kernel_rfl) (by rw [hF]; kernel_rfl)
            · exact Reg.doesV_val (ev_move rfl) (by rw [hF]; kernel_rfl) (by rw [hF]; kernel_rfl)
            · exact Reg.doesV_val (ev_move rfl) (by rw [hF]; kernel_rfl) (by rw [hF]; kernel_rfl)
            · exact Reg.doesV_val (ev_index (b := b) (off := off) (c := c) hlt' rfl (by rw [hF]; kernel_rfl) (by rw [hF]; kernel_rfl)) (by rw [hF]; kernel_rfl) (by rw [hF]; kernel_rfl)
            · exact Reg.doesV_val (ev_load3 e0 e1 e2 rfl (by rw [hF]; kernel_rfl)) (by rw [hF]; kernel_rfl) (by rw [hF]; kernel_rfl)
            · exact Reg.doesV_call (rtruth_c true w') (ev_call enrTruth rfl (by rw [hF]; kernel_rfl)) (by rw [hF]; kernel_rfl) (by rw [hF]; kernel_rfl)
            · exact Reg.doesV_val (by rw [ev_eq v tt rfl (by rw [hF]; kernel_rfl) (by rw [hF]; kernel_rfl), Hew.out]) (by rw [hF]; kernel_rfl) (by rw [hF]; kernel_rfl)
            · exact Reg.doesV_val (ev_pick true rfl (by rw [hF]; kernel_rfl)) (by rw [hF]; kernel_rfl) (by rw [hF]; kernel_rfl)
            · exact Reg.doesV_val (ev_assign rfl) (by rw [hF]; kernel_rfl) (by rw [hF]; kernel_rfl)
          · intro w3 hB
            simp only [List.cons_append, List.nil_append, Reg.putAll, Act.put, List.setIfInBounds_toArray, List.set_cons_zero, List.set_cons_succ]
            have hb3 := hb2.trans (hB.mono hb2.size)
            have br3 := br2.after hB
            clear hB hb2 br2 hbl2
            go_wp2
            go_roundw
            case rel => exact ⟨k + 1, ew, by omega, rfl, by go_num, br3, hb3, Hst.out.symm.trans hinv.out⟩
            case measure => simp [intOf]; omega
      · have Hfin := Lib.hid (Hst.out.symm.trans hinv.out)
        go_wp2_with fail
        refine (rtruth_c false _).mono ?_
        rintro e w3 ⟨rfl, hb3⟩
        have r3 := br2.after hb3
        have hbw := hb2.trans (hb3.mono hb2.size)
        clear hb3 br2 hb2
        have a0 := r3.cell0
        have a1 := r3.cell1
        have a2 := r3.cell2
        have f0 := r3.frozen 0
        have f1 := r3.frozen 1
        have f2 := r3.frozen 2
        go_wp2
        rw [put3_fold, ← Hfin.out]
        exact ret_val (a := ff) Tryz.results76 rfl (r3.put ff) rfl ⟨rfl, put3_below hbw (by omega) ff⟩
  · have hstep := hinv.out
    rw [List.drop_eq_nil_of_le (by rw [Hn.out]; omega)] at hstep
    have Hst := Lib.hid hstep
    clear hstep
    cases all
    · have a0 := br.cell0
      have a1 := br.cell1
      have a2 := br.cell2
      have f0 := br.frozen 0
      have f1 := br.frozen 1
      have f2 := br.frozen 2
      go_wp2
      rw [put3_fold, ← Hst.out]
      exact ret_val (a := nl) Tryz.results76 rfl (br.put nl) rfl ⟨rfl, put3_below hbr (by omega) nl⟩
    · go_wp2_with fail
      refine (rtruth_c true _).mono ?_
      rintro e w3 ⟨rfl, hb3⟩
      have r3 := br.after hb3
      have hbw := hbr.trans (hb3.mono hbr.size)
      clear hb3 br hbr
      have a0 := r3.cell0
      have a1 := r3.cell1
      have a2 := r3.cell2
      have f0 := r3.frozen 0
      have f1 := r3.frozen 1
      have f2 := r3.frozen 2
      go_wp2
      rw [put3_fold, ← Hst.out]
      exact ret_val (a := tt) Tryz.results76 rfl (r3.put tt) rfl ⟨rfl, put3_below hbw (by omega) tt⟩
set_option maxHeartbeats 400000 in
theorem rand_nil (A : Option Addr) (c : Nat) (w : World) :
 Calls Tryz.prog 76 #[.slice A 0 c] w fun e w' => e = .returned tt.v ∧ Below w.heap.size w w' := by
 go_enter Tryz.func76, Tryz.ntmps76
 go_wp2_with fail
 refine wp_loop_rounds 1 ?_
 rw [rounds_succ]
 go_wp2_with fail
 refine (rtruth_c true _).mono ?_
 rintro e w3 ⟨rfl, hb3⟩
 have r3 : Bx w3 w.heap.size nl := (Bx.new w nl).after hb3
 have hbw : Below w.heap.size w w3 := (below_one _ _).trans (hb3.mono (by simp))
 clear hb3
 have a0 := r3.cell0
 have a1 := r3.cell1
 have a2 := r3.cell2
 have f0 := r3.frozen 0
 have f1 := r3.frozen 1
 have f2 := r3.frozen 2
 go_wp2
 rw [put3_fold]
 exact ret_val (a := tt) Tryz.results76 rfl (r3.put tt) rfl ⟨rfl, put3_below hbw (by omega) tt⟩
theorem rand_c (A : Option Addr) (n c : Nat) (vs : List Val) (w : World) (hn : vs.length = n) (hmax : n ≤ maxLen) (hs : Sl w A vs) :
 Calls Tryz.prog 76 #[.slice A n c] w fun e w' => e = .returned (ra ff tt true vs).v ∧ Below w.heap.size w w' := by
 rcases hs with rfl | ⟨b, off, rfl, hlt, h⟩
 · obtain rfl : n = 0 := hn.symm
   exact rand_nil A c w
 · exact rand_some b off n c vs w hn hmax hlt h
set_option maxHeartbeats 600000 in
theorem ror_some (b off n c : Nat) (vs : List Val) (w : World) (hn : vs.length = n) (hmax : n ≤ maxLen) (hlt : b < w.heap.size)
 (hs : ∀ i (a : Val), vs[i]? = some a → w.cell? ⟨b, off + i * 3, none⟩ = some (.int .i64 a.k) ∧ w.cell? ⟨b, off + i * 3 + 1, none⟩ = some (.int .i64 a.n) ∧ w.cell? ⟨b, off + i * 3 + 2, none⟩ = some (.string a.s)) :
 Calls Tryz.prog 77 #[.slice (some ⟨b, off, none⟩) n c] w fun e w' => e = .returned (ra tt ff true vs).v ∧ Below w.heap.size w w' := by
 unfold maxLen at hmax
 have Hn := Lib.hid hn
 have Hs := Lib.hid hs
 clear hn hs
 go_enter Tryz.func77, Tryz.ntmps77
 go_wp2_with fail
 go_loopw [3, 4] (fun x i wr => ∃ (k : Nat) (all : Bool), k ≤ n ∧ x = .bool all ∧ i = .int .i64 k ∧ Bx wr w.heap.size nl ∧ Below w.heap.size w wr ∧ Hid (ra tt ff all (vs.drop k) = ra tt ff true vs))
  (fun _ i _ => n - (intOf i).toNat)
 case atStart => exact ⟨0, true, Nat.zero_le _, rfl, rfl, Bx.new w nl, below_one _ _, rfl⟩
 case round =>
  obtain ⟨k, all, hk, rfl, rfl, br, hbr, hinv⟩ := hrel
  by_cases hlt' : k < n
  · obtain ⟨v, hv⟩ : ∃ v, vs[k]? = some v := ⟨vs[k]'(by rw [Hn.out]; exact hlt'), List.getElem?_eq_getElem _⟩
    obtain ⟨c0, c1, c2⟩ := Hs.out k v hv
    have d0 : Hid (wr.cell? ⟨b, off + k * 3, none⟩ = some (.int .i64 v.k)) := (hbr.cell (p := ⟨b, off + k * 3, none⟩) hlt).trans c0
    have d1 : Hid (wr.cell? ⟨b, off + k * 3 + 1, none⟩ = some (.int .i64 v.n)) := (hbr.cell (p := ⟨b, off + k * 3 + 1, none⟩) hlt).trans c1
    have d2 : Hid (wr.cell? ⟨b, off + k * 3 + 2, none⟩ = some (.string v.s)) := (hbr.cell (p := ⟨b, off + k * 3 + 2, none⟩) hlt).trans c2
    have hbl : b < wr.heap.size := Nat.lt_of_lt_of_le hlt hbr.size
    have Hv := Lib.hid hv
    clear c0 c1 c2 hv
    have hstep := ra_drop tt ff all vs k v Hv.out
    obtain ⟨es, hes⟩ : ∃ es, v.eq tt = es := ⟨_, rfl⟩
    obtain ⟨ew, hew⟩ : ∃ ew, v.eq ff = ew := ⟨_, rfl⟩
    rw [hes, hew] at hstep
    have Hes := Lib.hid hes
    have Hew := Lib.hid hew
    have Hst := Lib.hid hstep
    clear hstep hes hew
    go_wp2_with fail
    refine Reg.wp_region_vals mixed (by kernel_rfl) [(11, .slice (some ⟨b, off, none⟩) n c), (12, .int .i64 k), (13, .pointer (some ⟨b, off + k * 3, none⟩)), (14, v.v), (15, tt.v), (16, .bool es)] 30 rfl (by kernel_rfl) ?_ ?_
    · intro F hF w' hB
      have e0 := (hB.cell (p := ⟨b, off + k * 3, none⟩) hbl).trans d0.out
      have e1 := (hB.cell (p := ⟨b, off + k * 3 + 1, none⟩) hbl).trans d1.out
      have e2 := (hB.cell (p := ⟨b, off + k * 3 + 2, none⟩) hbl).trans d2.out
      refine ⟨?_, ?_, ?_, ?_, ?_, ?_, trivial⟩
      · exact Reg.doesV_val (ev_move rfl) (by rw [hF]; kernel_rfl) (by rw [hF]; kernel_rfl)
      · exact Reg.doesV_val (ev_move rfl) (by rw [hF]; kernel_rfl) (by rw [hF]; kernel_rfl)
      · exact Reg.doesV_val (ev_index (b := b) (off := off) (c := c) hlt' rfl (by rw [hF]; kernel_rfl) (by rw [hF]; kernel_rfl)) (by rw [hF]; kernel_rfl) (by rw [hF]; kernel_rfl)
      · exact Reg.doesV_val (ev_load3 e0 e1 e2 rfl (by rw [hF]; kernel_rfl)) (by rw [hF]; kernel_rfl) (by rw [hF]; kernel_rfl)
      · exact Reg.doesV_call (rtruth_c true w') (ev_call enrTruth rfl (by rw [hF]; kernel_rfl)) (by rw [hF]; kernel_rfl) (by rw [hF]; kernel_rfl)
      · exact Reg.doesV_val (by rw [ev_eq v tt rfl (by rw [hF]; kernel_rfl) (by rw [hF]; kernel_rfl), Hes.out]) (by rw [hF]; kernel_rfl) (by rw [hF]; kernel_rfl)
    · intro w2 hB
      simp only [Reg.putAll, Act.put, List.setIfInBounds_toArray, List.set_cons_zero, List.set_cons_succ]
      have hb2 := hbr.trans (hB.mono hbr.size)
      have br2 := br.after hB
      have hbl2 : b < w2.heap.size := Nat.lt_of_lt_of_le hbl hB.size
      have d0 : Hid (w2.cell? ⟨b, off + k * 3, none⟩ = some (.int .i64 v.k)) := (hB.cell (p := ⟨b, off + k * 3, none⟩) hbl).trans d0.out
      have d1 : Hid (w2.cell? ⟨b, off + k * 3 + 1, none⟩ = some (.int .i64 v.n)) := (hB.cell (p := ⟨b, off + k * 3 + 1, none⟩) hbl).trans d1.out
      have d2 : Hid (w2.cell? ⟨b, off + k * 3 + 2, none⟩ = some (.string v.s)) := (hB.cell (p := ⟨b, off + k * 3 + 2, none⟩) hbl).trans d2.out
      clear hB hbr br hbl
      cases es
      · go_wp2_with fail
        cases all
        · refine Reg.wp_region_late mixed (by kernel_rfl) [(18, .bool false), (19, .bool false), (20, undef), (21, undef), (22, undef), (23, undef), (24, undef), (25, undef), (26, .bool false)] [(3, .bool false)] (fun i => i == 0) 30 rfl (by kernel_rfl) ?_ ?_
          · intro E F hE hF w' hB
            refine ⟨?_, ?_, ?_, ?_, ?_, ?_, ?_, ?_, ?_, ?_, trivial⟩
            · exact Reg.doesV_val (ev_move rfl) (by rw [hE]; kernel_rfl) (by rw [hE, hF]; kernel_rfl)
            · exact Reg.doesV_val (ev_move rfl) (by rw [hF]; kernel_rfl) (by rw [hF]; kernel_rfl)
            · exact Reg.doesV_skip (by rw [hF]; kernel_rfl) (by rw [hF]; kernel_rfl)
            · exact Reg.doesV_skip (by rw [hF]; kernel_rfl) (by rw [hF]; kernel_rfl)
            · exact Reg.doesV_skip (by rw [hF]; kernel_rfl) (by rw [hF]; kernel_rfl)
            · exact Reg.doesV_skip (by rw [hF]; kernel_rfl) (by rw [hF]; kernel_rfl)
            · exact Reg.doesV_skip (by rw [hF]; kernel_rfl) (by rw [hF]; kernel_rfl)
            · exact Reg.doesV_skip (by rw [hF]; kernel_rfl) (by rw [hF]; kernel_rfl)
            · exact Reg.doesV_val (ev_pick false rfl (by rw [hF]; kernel_rfl)) (by rw [hF]; kernel_rfl) (by rw [hF]; kernel_rfl)
            · exact Reg.doesV_val (ev_assign rfl) (by rw [hF]; kernel_rfl) (by rw [hF]; kernel_rfl)
          · intro w3 hB
            simp only [List.cons_append, List.nil_append, Reg.putAll, Act.put, List.setIfInBounds_toArray, List.set_cons_zero, List.set_cons_succ]
            have hb3 := hb2.trans (hB.mono hb2.size)
            have br3 := br2.after hB
            clear hB hb2 br2 hbl2
            go_wp2
            go_roundw
            case rel => exact ⟨k + 1, false, by omega, rfl, by go_num, br3, hb3, Hst.out.symm.trans hinv.out⟩
            case measure => simp [intOf]; omega
        · refine Reg.wp_region_late mixed (by kernel_rfl) [(18, .bool true), (19, .bool true), (20, .slice (some ⟨b, off, none⟩) n c), (21, .int .i64 k), (22, .pointer (some ⟨b, off + k * 3, none⟩)), (23, v.v), (24, ff.v), (25, .bool ew), (26, .bool ew)] [(3, .bool ew)] (fun i => i == 0) 30 rfl (by kernel_rfl) ?_ ?_
          · intro E F hE hF w' hB
            have e0 := (hB.cell (p := ⟨b, off + k * 3, none⟩) hbl2).trans d0.out
            have e1 := (hB.cell (p := ⟨b, off + k * 3 + 1, none⟩) hbl2).trans d1.out
            have e2 := (hB.cell (p := ⟨b, off + k * 3 + 2, none⟩) hbl2).trans d2.out
            refine ⟨?_, ?_, ?_, ?_, ?_, ?_, ?_, ?_, ?_, ?_, trivial⟩
            · exact Reg.doesV_val (ev_move rfl) (by rw [hE]; kernel_rfl) (by rw [hE, hF]; kernel_rfl)
            · exact Reg.doesV_val (ev_move rfl) (by rw [hF]; kernel_rfl) (by rw [hF]; kernel_rfl)
            · exact Reg.doesV_val (ev_move rfl) (by rw [hF]; kernel_rfl) (by rw [hF]; kernel_rfl)
            · exact Reg.doesV_val (ev_move rfl) (by rw [hF]; kernel_rfl) (by rw [hF]; kernel_rfl)
            · exact Reg.doesV_val (ev_index (b := b) (off := off) (c := c) hlt' rfl (by rw [hF]; kernel_rfl) (by rw [hF]; kernel_rfl)) (by rw [hF]; kernel_rfl) (by rw [hF]; kernel_rfl)
            · exact Reg.doesV_val (ev_load3 e0 e1 e2 rfl (by rw [hF]; kernel_rfl)) (by rw [hF]; kernel_rfl) (by rw [hF]; kernel_rfl)
            · exact Reg.doesV_call (rtruth_c false w') (ev_call enrTruth rfl (by rw [hF]; kernel_rfl)) (by rw [hF]; kernel_rfl) (by rw [hF]; kernel_rfl)
            · exact Reg.doesV_val (by rw [ev_eq v ff rfl (by rw [hF]; kernel_rfl) (by rw [hF]; kernel_rfl), Hew.out]) (by rw [hF]; kernel_rfl) (by rw [hF]; kernel_rfl)
            · exact Reg.doesV_val (ev_pick true rfl (by rw [hF]; kernel_rfl)) (by rw [hF]; kernel_rfl) (by rw [hF]; kernel_rfl)
            · exact Reg.doesV_val (ev_assign rfl) (by rw [hF]; kernel_rfl) (by rw [hF]; kernel_rfl)
          · intro w3 hB
            simp only [List.cons_append, List.nil_append, Reg.putAll, Act.put, List.setIfInBounds_toArray, List.set_cons_zero, List.set_cons_succ]
            have hb3 := hb2.trans (hB.mono hb2.size)
            have br3 := br2.after hB
            clear hB hb2 br2 hbl2
            go_wp2
            go_roundw
            case rel => exact ⟨k + 1, ew, by omega, rfl, by go_num, br3, hb3, Hst.out.symm.trans hinv.out⟩
            case measure => simp [intOf]; omega
      · have Hfin := Lib.hid (Hst.out.symm.trans hinv.out)
        go_wp2_with fail
        refine (rtruth_c true _).mono ?_
        rintro e w3 ⟨rfl, hb3⟩
        have r3 := br2.after hb3
        have hbw := hb2.trans (hb3.mono hb2.size)
        clear hb3 br2 hb2
        have a0 := r3.cell0
        have a1 := r3.cell1
        have a2 := r3.cell2
        have f0 := r3.frozen 0
        have f1 := r3.frozen 1
        have f2 := r3.frozen 2
        go_wp2
        rw [put3_fold, ← Hfin.out]
        exact ret_val (a := tt) Tryz.results77 rfl (r3.put tt) rfl ⟨rfl, put3_below hbw (by omega) tt⟩
  · have hstep := hinv.out
    rw [List.drop_eq_nil_of_le (by rw [Hn.out]; omega)] at hstep
    have Hst := Lib.hid hstep
    clear hstep
    cases all
    · have a0 := br.cell0
      have a1 := br.cell1
      have a2 := br.cell2
      have f0 := br.frozen 0
      have f1 := br.frozen 1
      have f2 := br.frozen 2
      go_wp2
      rw [put3_fold, ← Hst.out]
      exact ret_val (a := nl) Tryz.results77 rfl (br.put nl) rfl ⟨rfl, put3_below hbr (by omega) nl⟩
    · go_wp2_with fail
      refine (rtruth_c false _).mono ?_
      rintro e w3 ⟨rfl, hb3⟩
      have r3 := br.after hb3
      have hbw := hbr.trans (hb3.mono hbr.size)
      clear hb3 br hbr
      have a0 := r3.cell0
      have a1 := r3.cell1
      have a2 := r3.cell2
      have f0 := r3.frozen 0
      have f1 := r3.frozen 1
      have f2 := r3.frozen 2
      go_wp2
      rw [put3_fold, ← Hst.out]
      exact ret_val (a := ff) Tryz.results77 rfl (r3.put ff) rfl ⟨rfl, put3_below hbw (by omega) ff⟩
set_option maxHeartbeats 400000 in
theorem ror_nil (A : Option Addr) (c : Nat) (w : World) :
 Calls Tryz.prog 77 #[.slice A 0 c] w fun e w' => e = .returned ff.v ∧ Below w.heap.size w w' := by
 go_enter Tryz.func77, Tryz.ntmps77
 go_wp2_with fail
 refine wp_loop_rounds 1 ?_
 rw [rounds_succ]
 go_wp2_with fail
 refine (rtruth_c false _).mono ?_
 rintro e w3 ⟨rfl, hb3⟩
 have r3 : Bx w3 w.heap.size nl := (Bx.new w nl).after hb3
 have hbw : Below w.heap.size w w3 := (below_one _ _).trans (hb3.mono (by simp))
 clear hb3
 have a0 := r3.cell0
 have a1 := r3.cell1
 have a2 := r3.cell2
 have f0 := r3.frozen 0
 have f1 := r3.frozen 1
 have f2 := r3.frozen 2
 go_wp2
 rw [put3_fold]
 exact ret_val (a := ff) Tryz.results77 rfl (r3.put ff) rfl ⟨rfl, put3_below hbw (by omega) ff⟩
theorem ror_c (A : Option Addr) (n c : Nat) (vs : List Val) (w : World) (hn : vs.length = n) (hmax : n ≤ maxLen) (hs : Sl w A vs) :
 Calls Tryz.prog 77 #[.slice A n c] w fun e w' => e = .returned (ra tt ff true vs).v ∧ Below w.heap.size w w' := by
 rcases hs with rfl | ⟨b, off, rfl, hlt, h⟩
 · obtain rfl : n = 0 := hn.symm
   exact ror_nil A c w
 · exact ror_some b off n c vs w hn hmax hlt h
theorem rand_and (vs : List Val) : ra ff tt true vs = andV vs := by unfold andV; rw [nt_ff]; exact ra_dec ff tt vs true
theorem ror_or (vs : List Val) : ra tt ff true vs = orV vs := by unfold orV; rw [nt_tt]; exact ra_dec tt ff vs true
def tkR (op : Int) : Int := if op == 0 || op == 1 then 0 else if op == 9 || op == 10 then 1 else if decide (2 ≤ op) && decide (op ≤ 8) then 2 else -1
set_option maxHeartbeats 1000000 in
theorem takes_c (op : Int) (w : World) : Calls Tryz.prog 63 #[.int .i64 op] w fun e w' => e = .returned (.int .i64 (tkR op)) ∧ w' = w := by
 unfold tkR
 cases h0 : op == 0
 · cases h1 : op == 1
   · cases h9 : op == 9
     · cases h10 : op == 10
       · cases h2 : decide (2 ≤ op)
         · go_enter Tryz.func63, Tryz.ntmps63
           go_wp2
           go_ret
           exact ⟨rfl, rfl⟩
         · cases h8 : decide (op ≤ 8)
           · go_enter Tryz.func63, Tryz.ntmps63
             go_wp2
             go_ret
             exact ⟨rfl, rfl⟩
           · go_enter Tryz.func63, Tryz.ntmps63
             go_wp2
             go_ret
             exact ⟨rfl, rfl⟩
       · go_enter Tryz.func63, Tryz.ntmps63
         go_wp2
         go_ret
         exact ⟨rfl, rfl⟩
     · go_enter Tryz.func63, Tryz.ntmps63
       go_wp2
       go_ret
       exact ⟨rfl, rfl⟩
   · go_enter Tryz.func63, Tryz.ntmps63
     go_wp2
     go_ret
     exact ⟨rfl, rfl⟩
 · go_enter Tryz.func63, Tryz.ntmps63
   go_wp2
   go_ret
   exact ⟨rfl, rfl⟩
def lvR (op a b : Int) : Int × Bool :=
 if op == 2 || op == 3 || op == 4 then (2, (a == 2 || a == 0) && (b == 2 || b == 0)) else if op == 5 || op == 6 then (1, a == b || a == 0 || b == 0)
 else if op == 7 || op == 8 then (1, (a == 1 || a == 0) && (b == 1 || b == 0)) else if op == 9 then (1, b == 1 || b == 0) else (1, true)
set_option maxHeartbeats 4000000 in
theorem leavesR_c (op a b : Int) (w : World) : Calls Tryz.prog 65 #[.int .i64 op, .int .i64 a, .int .i64 b] w fun e w' => e = .returned (.tuple #[.int .i64 (lvR op a b).1, .bool (lvR op a b).2]) ∧ w' = w := by
 have one : ∀ op, op = 2 ∨ op = 3 ∨ op = 4 ∨ op = 5 ∨ op = 6 ∨ op = 7 ∨ op = 8 ∨ op = 9 → Calls Tryz.prog 65 #[.int .i64 op, .int .i64 a, .int .i64 b] w fun e w' => e = .returned (.tuple #[.int .i64 (lvR op a b).1, .bool (lvR op a b).2]) ∧ w' = w := by
  intro op hop
  have key : ∀ R, lvR op a b = R → Calls Tryz.prog 65 #[.int .i64 op, .int .i64 a, .int .i64 b] w fun e w' => e = .returned (.tuple #[.int .i64 R.1, .bool R.2]) ∧ w' = w := by
   rintro R rfl
   rcases hop with rfl | rfl | rfl | rfl | rfl | rfl | rfl | rfl
   · show Calls _ _ _ _ fun e w' => e = .returned (.tuple #[.int .i64 2, .bool ((a == 2 || a == 0) && (b == 2 || b == 0))]) ∧ w' = w
     cases h1 : a == 2 <;> cases h2 : a == 0 <;> cases h3 : b == 2 <;> (go_enter Tryz.func65, Tryz.ntmps65; go_wp2; go_ret2; exact ⟨rfl, rfl⟩)
   · show Calls _ _ _ _ fun e w' => e = .returned (.tuple #[.int .i64 2, .bool ((a == 2 || a == 0) && (b == 2 || b == 0))]) ∧ w' = w
     cases h1 : a == 2 <;> cases h2 : a == 0 <;> cases h3 : b == 2 <;> (go_enter Tryz.func65, Tryz.ntmps65; go_wp2; go_ret2; exact ⟨rfl, rfl⟩)
   · show Calls _ _ _ _ fun e w' => e = .returned (.tuple #[.int .i64 2, .bool ((a == 2 || a == 0) && (b == 2 || b == 0))]) ∧ w' = w
     cases h1 : a == 2 <;> cases h2 : a == 0 <;> cases h3 : b == 2 <;> (go_enter Tryz.func65, Tryz.ntmps65; go_wp2; go_ret2; exact ⟨rfl, rfl⟩)
   · show Calls _ _ _ _ fun e w' => e = .returned (.tuple #[.int .i64 1, .bool (a == b || a == 0 || b == 0)]) ∧ w' = w
     cases h1 : a == b <;> cases h2 : a == 0 <;> (go_enter Tryz.func65, Tryz.ntmps65; go_wp2; go_ret2; exact ⟨rfl, rfl⟩)
   · show Calls _ _ _ _ fun e w' => e = .returned (.tuple #[.int .i64 1, .bool (a == b || a == 0 || b == 0)]) ∧ w' = w
     cases h1 : a == b <;> cases h2 : a == 0 <;> (go_enter Tryz.func65, Tryz.ntmps65; go_wp2; go_ret2; exact ⟨rfl, rfl⟩)
   · show Calls _ _ _ _ fun e w' => e = .returned (.tuple #[.int .i64 1, .bool ((a == 1 || a == 0) && (b == 1 || b == 0))]) ∧ w' = w
     cases h1 : a == 1 <;> cases h2 : a == 0 <;> cases h3 : b == 1 <;> (go_enter Tryz.func65, Tryz.ntmps65; go_wp2; go_ret2; exact ⟨rfl, rfl⟩)
   · show Calls _ _ _ _ fun e w' => e = .returned (.tuple #[.int .i64 1, .bool ((a == 1 || a == 0) && (b == 1 || b == 0))]) ∧ w' = w
     cases h1 : a == 1 <;> cases h2 : a == 0 <;> cases h3 : b == 1 <;> (go_enter Tryz.func65, Tryz.ntmps65; go_wp2; go_ret2; exact ⟨rfl, rfl⟩)
   · show Calls _ _ _ _ fun e w' => e = .returned (.tuple #[.int .i64 1, .bool (b == 1 || b == 0)]) ∧ w' = w
     cases h1 : b == 1 <;> (go_enter Tryz.func65, Tryz.ntmps65; go_wp2; go_ret2; exact ⟨rfl, rfl⟩)
  exact key _ rfl
 rcases ops_cases op with h | h | h | h | h | h | h | h | h | ⟨h2, h3, h4, h5, h6, h7, h8, h9, _⟩
 · exact one op (.inl h)
 · exact one op (.inr (.inl h))
 · exact one op (.inr (.inr (.inl h)))
 · exact one op (.inr (.inr (.inr (.inl h))))
 · exact one op (.inr (.inr (.inr (.inr (.inl h)))))
 · exact one op (.inr (.inr (.inr (.inr (.inr (.inl h))))))
 · exact one op (.inr (.inr (.inr (.inr (.inr (.inr (.inl h)))))))
 · exact one op (.inr (.inr (.inr (.inr (.inr (.inr (.inr h)))))))
 · subst h
   show Calls _ _ _ _ fun e w' => e = .returned (.tuple #[.int .i64 1, .bool true]) ∧ w' = w
   go_enter Tryz.func65, Tryz.ntmps65
   go_wp2
   go_ret2
   exact ⟨rfl, rfl⟩
 · have e : lvR op a b = (1, true) := by simp [lvR, h2, h3, h4, h5, h6, h7, h8, h9]
   rw [e]
   clear e
   go_enter Tryz.func65, Tryz.ntmps65
   go_wp2
   go_ret2
   exact ⟨rfl, rfl⟩
theorem unl_two (t : Bool) (a b : Val) : unl t [a, b] = if (a.k == 0 || b.k == 0) then nl else tv t := by
 unfold unl anyNull anyNull anyNull
 rw [Bool.or_false]
set_option maxHeartbeats 1000000 in
theorem do_add (a b : Val) (w : World) (ha : I6n a.n) (hb : I6n b.n) : Calls Tryz.prog 66 #[.int .i64 2, a.v, b.v] w fun e w' => e = .returned (.tuple #[(addR a b).1.v, .bool (addR a b).2]) ∧ Below w.heap.size w w' := by
 have Ha := Lib.hid ha
 have Hb := Lib.hid hb
 clear ha hb
 have a0 : Bx (((w.alloc (.cells #[.int .i64 a.k, .int .i64 a.n, .string a.s] 46)).alloc (.cells #[.int .i64 b.k, .int .i64 b.n, .string b.s] 46)).alloc (.cells #[.int .i64 nl.k, .int .i64 nl.n, .string nl.s] 46)) w.heap.size a := ((Bx.new w a).alloc _).alloc _
 have b0 : Bx (((w.alloc (.cells #[.int .i64 a.k, .int .i64 a.n, .string a.s] 46)).alloc (.cells #[.int .i64 b.k, .int .i64 b.n, .string b.s] 46)).alloc (.cells #[.int .i64 nl.k, .int .i64 nl.n, .string nl.s] 46)) (w.heap.size + 1) b := (Bx.new1 w b _).alloc _
 have r0 := Bx.new2 w nl (.cells #[.int .i64 a.k, .int .i64 a.n, .string a.s] 46) (.cells #[.int .i64 b.k, .int .i64 b.n, .string b.s] 46)
 have hb0 := below_three w (.cells #[.int .i64 a.k, .int .i64 a.n, .string a.s] 46) (.cells #[.int .i64 b.k, .int .i64 b.n, .string b.s] 46) (.cells #[.int .i64 nl.k, .int .i64 nl.n, .string nl.s] 46)
 obtain ⟨R, hR⟩ : ∃ R, addR a b = R := ⟨_, rfl⟩
 rw [hR]
 have HR := Lib.hid hR
 clear hR
 go_enter Tryz.func66, Tryz.ntmps66
 go_wp2_with fail
 refine (r1add_c a b _ Ha.out Hb.out).mono ?_
 rintro e w1 ⟨rfl, hc⟩
 rw [HR.out]
 have r1 := r0.after hc
 have a1 := a0.after hc
 have b1 := b0.after hc
 have hb1 := hb0.trans (hc.mono hb0.size)
 clear hc r0 a0 b0 hb0
 have g0 := r1.cell0
 have g1 := r1.cell1
 have g2 := r1.cell2
 have f0 := r1.frozen 0
 have f1 := r1.frozen 1
 have f2 := r1.frozen 2
 go_wp2
 exact ret_valX (a := R.1) (z := .bool R.2) Tryz.results66 rfl rfl (r1.put R.1) rfl ⟨rfl, put3_below hb1 (by omega) R.1⟩
set_option maxHeartbeats 1000000 in
theorem do_sub (a b : Val) (w : World) (ha : I6n a.n) (hb : I6n b.n) : Calls Tryz.prog 66 #[.int .i64 3, a.v, b.v] w fun e w' => e = .returned (.tuple #[(subR a b).1.v, .bool (subR a b).2]) ∧ Below w.heap.size w w' := by
 have Ha := Lib.hid ha
 have Hb := Lib.hid hb
 clear ha hb
 have a0 : Bx (((w.alloc (.cells #[.int .i64 a.k, .int .i64 a.n, .string a.s] 46)).alloc (.cells #[.int .i64 b.k, .int .i64 b.n, .string b.s] 46)).alloc (.cells #[.int .i64 nl.k, .int .i64 nl.n, .string nl.s] 46)) w.heap.size a := ((Bx.new w a).alloc _).alloc _
 have b0 : Bx (((w.alloc (.cells #[.int .i64 a.k, .int .i64 a.n, .string a.s] 46)).alloc (.cells #[.int .i64 b.k, .int .i64 b.n, .string b.s] 46)).alloc (.cells #[.int .i64 nl.k, .int .i64 nl.n, .string nl.s] 46)) (w.heap.size + 1) b := (Bx.new1 w b _).alloc _
 have r0 := Bx.new2 w nl (.cells #[.int .i64 a.k, .int .i64 a.n, .string a.s] 46) (.cells #[.int .i64 b.k, .int .i64 b.n, .string b.s] 46)
 have hb0 := below_three w (.cells #[.int .i64 a.k, .int .i64 a.n, .string a.s] 46) (.cells #[.int .i64 b.k, .int .i64 b.n, .string b.s] 46) (.cells #[.int .i64 nl.k, .int .i64 nl.n, .string nl.s] 46)
 obtain ⟨R, hR⟩ : ∃ R, subR a b = R := ⟨_, rfl⟩
 rw [hR]
 have HR := Lib.hid hR
 clear hR
 go_enter Tryz.func66, Tryz.ntmps66
 go_wp2_with fail
 refine (rsub_c a b _ Ha.out Hb.out).mono ?_
 rintro e w1 ⟨rfl, hc⟩
 rw [HR.out]
 have r1 := r0.after hc
 have a1 := a0.after hc
 have b1 := b0.after hc
 have hb1 := hb0.trans (hc.mono hb0.size)
 clear hc r0 a0 b0 hb0
 have g0 := r1.cell0
 have g1 := r1.cell1
 have g2 := r1.cell2
 have f0 := r1.frozen 0
 have f1 := r1.frozen 1
 have f2 := r1.frozen 2
 go_wp2
 exact ret_valX (a := R.1) (z := .bool R.2) Tryz.results66 rfl rfl (r1.put R.1) rfl ⟨rfl, put3_below hb1 (by omega) R.1⟩
set_option maxHeartbeats 1000000 in
theorem do_mul (a b : Val) (w : World) (ha : I6n a.n) (hb : I6n b.n) : Calls Tryz.prog 66 #[.int .i64 4, a.v, b.v] w fun e w' => e = .returned (.tuple #[(mulR a b).1.v, .bool (mulR a b).2]) ∧ Below w.heap.size w w' := by
 have Ha := Lib.hid ha
 have Hb := Lib.hid hb
 clear ha hb
 have a0 : Bx (((w.alloc (.cells #[.int .i64 a.k, .int .i64 a.n, .string a.s] 46)).alloc (.cells #[.int .i64 b.k, .int .i64 b.n, .string b.s] 46)).alloc (.cells #[.int .i64 nl.k, .int .i64 nl.n, .string nl.s] 46)) w.heap.size a := ((Bx.new w a).alloc _).alloc _
 have b0 : Bx (((w.alloc (.cells #[.int .i64 a.k, .int .i64 a.n, .string a.s] 46)).alloc (.cells #[.int .i64 b.k, .int .i64 b.n, .string b.s] 46)).alloc (.cells #[.int .i64 nl.k, .int .i64 nl.n, .string nl.s] 46)) (w.heap.size + 1) b := (Bx.new1 w b _).alloc _
 have r0 := Bx.new2 w nl (.cells #[.int .i64 a.k, .int .i64 a.n, .string a.s] 46) (.cells #[.int .i64 b.k, .int .i64 b.n, .string b.s] 46)
 have hb0 := below_three w (.cells #[.int .i64 a.k, .int .i64 a.n, .string a.s] 46) (.cells #[.int .i64 b.k, .int .i64 b.n, .string b.s] 46) (.cells #[.int .i64 nl.k, .int .i64 nl.n, .string nl.s] 46)
 obtain ⟨R, hR⟩ : ∃ R, mulR a b = R := ⟨_, rfl⟩
 rw [hR]
 have HR := Lib.hid hR
 clear hR
 go_enter Tryz.func66, Tryz.ntmps66
 go_wp2_with fail
 refine (rmul_c a b _ Ha.out Hb.out).mono ?_
 rintro e w1 ⟨rfl, hc⟩
 rw [HR.out]
 have r1 := r0.after hc
 have a1 := a0.after hc
 have b1 := b0.after hc
 have hb1 := hb0.trans (hc.mono hb0.size)
 clear hc r0 a0 b0 hb0
 have g0 := r1.cell0
 have g1 := r1.cell1
 have g2 := r1.cell2
 have f0 := r1.frozen 0
 have f1 := r1.frozen 1
 have f2 := r1.frozen 2
 go_wp2
 exact ret_valX (a := R.1) (z := .bool R.2) Tryz.results66 rfl rfl (r1.put R.1) rfl ⟨rfl, put3_below hb1 (by omega) R.1⟩
set_option maxHeartbeats 1000000 in
theorem do_and (a b : Val) (w : World) (ha : I6n a.n) (hb : I6n b.n) : Calls Tryz.prog 66 #[.int .i64 7, a.v, b.v] w fun e w' => e = .returned (.tuple #[(andV [a, b]).v, .bool true]) ∧ Below w.heap.size w w' := by
 have Ha := Lib.hid ha
 have Hb := Lib.hid hb
 clear ha hb
 have a0 : Bx (((w.alloc (.cells #[.int .i64 a.k, .int .i64 a.n, .string a.s] 46)).alloc (.cells #[.int .i64 b.k, .int .i64 b.n, .string b.s] 46)).alloc (.cells #[.int .i64 nl.k, .int .i64 nl.n, .string nl.s] 46)) w.heap.size a := ((Bx.new w a).alloc _).alloc _
 have b0 : Bx (((w.alloc (.cells #[.int .i64 a.k, .int .i64 a.n, .string a.s] 46)).alloc (.cells #[.int .i64 b.k, .int .i64 b.n, .string b.s] 46)).alloc (.cells #[.int .i64 nl.k, .int .i64 nl.n, .string nl.s] 46)) (w.heap.size + 1) b := (Bx.new1 w b _).alloc _
 have r0 := Bx.new2 w nl (.cells #[.int .i64 a.k, .int .i64 a.n, .string a.s] 46) (.cells #[.int .i64 b.k, .int .i64 b.n, .string b.s] 46)
 have hb0 := below_three w (.cells #[.int .i64 a.k, .int .i64 a.n, .string a.s] 46) (.cells #[.int .i64 b.k, .int .i64 b.n, .string b.s] 46) (.cells #[.int .i64 nl.k, .int .i64 nl.n, .string nl.s] 46)
 obtain ⟨R, hR⟩ : ∃ R, andV [a, b] = R := ⟨_, rfl⟩
 rw [hR]
 have HR := Lib.hid hR
 clear hR
 go_enter Tryz.func66, Tryz.ntmps66
 go_wp2_with fail
 have hs := Sl.new2 (((w.alloc (.cells #[.int .i64 a.k, .int .i64 a.n, .string a.s] 46)).alloc (.cells #[.int .i64 b.k, .int .i64 b.n, .string b.s] 46)).alloc (.cells #[.int .i64 nl.k, .int .i64 nl.n, .string nl.s] 46)) a b
 have hsz : (((w.alloc (.cells #[.int .i64 a.k, .int .i64 a.n, .string a.s] 46)).alloc (.cells #[.int .i64 b.k, .int .i64 b.n, .string b.s] 46)).alloc (.cells #[.int .i64 nl.k, .int .i64 nl.n, .string nl.s] 46)).heap.size = w.heap.size + 3 := by simp
 rw [hsz] at hs
 have hba := below_one (((w.alloc (.cells #[.int .i64 a.k, .int .i64 a.n, .string a.s] 46)).alloc (.cells #[.int .i64 b.k, .int .i64 b.n, .string b.s] 46)).alloc (.cells #[.int .i64 nl.k, .int .i64 nl.n, .string nl.s] 46)) (.cells (cells2 a b) 46)
 have r1 := r0.after hba
 have a1 := a0.after hba
 have b1 := b0.after hba
 have hb1 := hb0.trans (hba.mono hb0.size)
 clear hba r0 a0 b0 hb0 hsz
 refine (rand_c (some ⟨w.heap.size + 3, 0, none⟩) 2 2 [a, b] _ rfl (by decide) hs).mono ?_
 rintro e w2 ⟨rfl, hc⟩
 rw [rand_and, HR.out]
 have r2 := r1.after hc
 have hb2 := hb1.trans (hc.mono hb1.size)
 clear hc r1 a1 b1 hb1 hs
 have g0 := r2.cell0
 have g1 := r2.cell1
 have g2 := r2.cell2
 have f0 := r2.frozen 0
 have f1 := r2.frozen 1
 have f2 := r2.frozen 2
 go_wp2
 exact ret_valX (a := R) (z := .bool true) Tryz.results66 rfl rfl (r2.put R) rfl ⟨rfl, put3_below hb2 (by omega) R⟩
set_option maxHeartbeats 1000000 in
theorem do_or (a b : Val) (w : World) (ha : I6n a.n) (hb : I6n b.n) : Calls Tryz.prog 66 #[.int .i64 8, a.v, b.v] w fun e w' => e = .returned (.tuple #[(orV [a, b]).v, .bool true]) ∧ Below w.heap.size w w' := by
 have Ha := Lib.hid ha
 have Hb := Lib.hid hb
 clear ha hb
 have a0 : Bx (((w.alloc (.cells #[.int .i64 a.k, .int .i64 a.n, .string a.s] 46)).alloc (.cells #[.int .i64 b.k, .int .i64 b.n, .string b.s] 46)).alloc (.cells #[.int .i64 nl.k, .int .i64 nl.n, .string nl.s] 46)) w.heap.size a := ((Bx.new w a).alloc _).alloc _
 have b0 : Bx (((w.alloc (.cells #[.int .i64 a.k, .int .i64 a.n, .string a.s] 46)).alloc (.cells #[.int .i64 b.k, .int .i64 b.n, .string b.s] 46)).alloc (.cells #[.int .i64 nl.k, .int .i64 nl.n, .string nl.s] 46)) (w.heap.size + 1) b := (Bx.new1 w b _).alloc _
 have r0 := Bx.new2 w nl (.cells #[.int .i64 a.k, .int .i64 a.n, .string a.s] 46) (.cells #[.int .i64 b.k, .int .i64 b.n, .string b.s] 46)
 have hb0 := below_three w (.cells #[.int .i64 a.k, .int .i64 a.n, .string a.s] 46) (.cells #[.int .i64 b.k, .int .i64 b.n, .string b.s] 46) (.cells #[.int .i64 nl.k, .int .i64 nl.n, .string nl.s] 46)
 obtain ⟨R, hR⟩ : ∃ R, orV [a, b] = R := ⟨_, rfl⟩
 rw [hR]
 have HR := Lib.hid hR
 clear hR
 go_enter Tryz.func66, Tryz.ntmps66
 go_wp2_with fail
 have hs := Sl.new2 (((w.alloc (.cells #[.int .i64 a.k, .int .i64 a.n, .string a.s] 46)).alloc (.cells #[.int .i64 b.k, .int .i64 b.n, .string b.s] 46)).alloc (.cells #[.int .i64 nl.k, .int .i64 nl.n, .string nl.s] 46)) a b
 have hsz : (((w.alloc (.cells #[.int .i64 a.k, .int .i64 a.n, .string a.s] 46)).alloc (.cells #[.int .i64 b.k, .int .i64 b.n, .string b.s] 46)).alloc (.cells #[.int .i64 nl.k, .int .i64 nl.n, .string nl.s] 46)).heap.size = w.heap.size + 3 := by simp
 rw [hsz] at hs
 have hba := below_one (((w.alloc (.cells #[.int .i64 a.k, .int .i64 a.n, .string a.s] 46)).alloc (.cells #[.int .i64 b.k, .int .i64 b.n, .string b.s] 46)).alloc (.cells #[.int .i64 nl.k, .int .i64 nl.n, .string nl.s] 46)) (.cells (cells2 a b) 46)
 have r1 := r0.after hba
 have a1 := a0.after hba
 have b1 := b0.after hba
 have hb1 := hb0.trans (hba.mono hb0.size)
 clear hba r0 a0 b0 hb0 hsz
 refine (ror_c (some ⟨w.heap.size + 3, 0, none⟩) 2 2 [a, b] _ rfl (by decide) hs).mono ?_
 rintro e w2 ⟨rfl, hc⟩
 rw [ror_or, HR.out]
 have r2 := r1.after hc
 have hb2 := hb1.trans (hc.mono hb1.size)
 clear hc r1 a1 b1 hb1 hs
 have g0 := r2.cell0
 have g1 := r2.cell1
 have g2 := r2.cell2
 have f0 := r2.frozen 0
 have f1 := r2.frozen 1
 have f2 := r2.frozen 2
 go_wp2
 exact ret_valX (a := R) (z := .bool true) Tryz.results66 rfl rfl (r2.put R) rfl ⟨rfl, put3_below hb2 (by omega) R⟩
set_option maxHeartbeats 1000000 in
theorem do_not (a b : Val) (w : World) (ha : I6n a.n) (hb : I6n b.n) : Calls Tryz.prog 66 #[.int .i64 9, a.v, b.v] w fun e w' => e = .returned (.tuple #[(nt b).v, .bool true]) ∧ Below w.heap.size w w' := by
 have Ha := Lib.hid ha
 have Hb := Lib.hid hb
 clear ha hb
 have a0 : Bx (((w.alloc (.cells #[.int .i64 a.k, .int .i64 a.n, .string a.s] 46)).alloc (.cells #[.int .i64 b.k, .int .i64 b.n, .string b.s] 46)).alloc (.cells #[.int .i64 nl.k, .int .i64 nl.n, .string nl.s] 46)) w.heap.size a := ((Bx.new w a).alloc _).alloc _
 have b0 : Bx (((w.alloc (.cells #[.int .i64 a.k, .int .i64 a.n, .string a.s] 46)).alloc (.cells #[.int .i64 b.k, .int .i64 b.n, .string b.s] 46)).alloc (.cells #[.int .i64 nl.k, .int .i64 nl.n, .string nl.s] 46)) (w.heap.size + 1) b := (Bx.new1 w b _).alloc _
 have r0 := Bx.new2 w nl (.cells #[.int .i64 a.k, .int .i64 a.n, .string a.s] 46) (.cells #[.int .i64 b.k, .int .i64 b.n, .string b.s] 46)
 have hb0 := below_three w (.cells #[.int .i64 a.k, .int .i64 a.n, .string a.s] 46) (.cells #[.int .i64 b.k, .int .i64 b.n, .string b.s] 46) (.cells #[.int .i64 nl.k, .int .i64 nl.n, .string nl.s] 46)
 obtain ⟨R, hR⟩ : ∃ R, nt b = R := ⟨_, rfl⟩
 rw [hR]
 have HR := Lib.hid hR
 clear hR
 go_enter Tryz.func66, Tryz.ntmps66
 go_wp2_with fail
 refine (rnot_c b _).mono ?_
 rintro e w1 ⟨rfl, hc⟩
 rw [HR.out]
 have r1 := r0.after hc
 have a1 := a0.after hc
 have b1 := b0.after hc
 have hb1 := hb0.trans (hc.mono hb0.size)
 clear hc r0 a0 b0 hb0
 have g0 := r1.cell0
 have g1 := r1.cell1
 have g2 := r1.cell2
 have f0 := r1.frozen 0
 have f1 := r1.frozen 1
 have f2 := r1.frozen 2
 go_wp2
 exact ret_valX (a := R) (z := .bool true) Tryz.results66 rfl rfl (r1.put R) rfl ⟨rfl, put3_below hb1 (by omega) R⟩
set_option maxHeartbeats 1000000 in
theorem do_null (a b : Val) (w : World) (ha : I6n a.n) (hb : I6n b.n) : Calls Tryz.prog 66 #[.int .i64 10, a.v, b.v] w fun e w' => e = .returned (.tuple #[(tv (b.k == 0)).v, .bool true]) ∧ Below w.heap.size w w' := by
 have Ha := Lib.hid ha
 have Hb := Lib.hid hb
 clear ha hb
 have a0 : Bx (((w.alloc (.cells #[.int .i64 a.k, .int .i64 a.n, .string a.s] 46)).alloc (.cells #[.int .i64 b.k, .int .i64 b.n, .string b.s] 46)).alloc (.cells #[.int .i64 nl.k, .int .i64 nl.n, .string nl.s] 46)) w.heap.size a := ((Bx.new w a).alloc _).alloc _
 have b0 : Bx (((w.alloc (.cells #[.int .i64 a.k, .int .i64 a.n, .string a.s] 46)).alloc (.cells #[.int .i64 b.k, .int .i64 b.n, .string b.s] 46)).alloc (.cells #[.int .i64 nl.k, .int .i64 nl.n, .string nl.s] 46)) (w.heap.size + 1) b := (Bx.new1 w b _).alloc _
 have r0 := Bx.new2 w nl (.cells #[.int .i64 a.k, .int .i64 a.n, .string a.s] 46) (.cells #[.int .i64 b.k, .int .i64 b.n, .string b.s] 46)
 have hb0 := below_three w (.cells #[.int .i64 a.k, .int .i64 a.n, .string a.s] 46) (.cells #[.int .i64 b.k, .int .i64 b.n, .string b.s] 46) (.cells #[.int .i64 nl.k, .int .i64 nl.n, .string nl.s] 46)
 obtain ⟨R, hR⟩ : ∃ R, tv (b.k == 0) = R := ⟨_, rfl⟩
 rw [hR]
 have HR := Lib.hid hR
 clear hR
 go_enter Tryz.func66, Tryz.ntmps66
 go_wp2_with fail
 refine (rtruth_c (b.k == 0) _).mono ?_
 rintro e w1 ⟨rfl, hc⟩
 rw [HR.out]
 have r1 := r0.after hc
 have a1 := a0.after hc
 have b1 := b0.after hc
 have hb1 := hb0.trans (hc.mono hb0.size)
 clear hc r0 a0 b0 hb0
 have g0 := r1.cell0
 have g1 := r1.cell1
 have g2 := r1.cell2
 have f0 := r1.frozen 0
 have f1 := r1.frozen 1
 have f2 := r1.frozen 2
 go_wp2
 exact ret_valX (a := R) (z := .bool true) Tryz.results66 rfl rfl (r1.put R) rfl ⟨rfl, put3_below hb1 (by omega) R⟩
set_option maxHeartbeats 1000000 in
theorem do_eq_n (a b : Val) (w : World) (ha : I6n a.n) (hb : I6n b.n) (hn : (a.k == 0 || b.k == 0) = true) : Calls Tryz.prog 66 #[.int .i64 5, a.v, b.v] w fun e w' => e = .returned (.tuple #[(nl).v, .bool true]) ∧ Below w.heap.size w w' := by
 have Ha := Lib.hid ha
 have Hb := Lib.hid hb
 clear ha hb
 have Hn := Lib.hid hn
 clear hn
 have a0 : Bx (((w.alloc (.cells #[.int .i64 a.k, .int .i64 a.n, .string a.s] 46)).alloc (.cells #[.int .i64 b.k, .int .i64 b.n, .string b.s] 46)).alloc (.cells #[.int .i64 nl.k, .int .i64 nl.n, .string nl.s] 46)) w.heap.size a := ((Bx.new w a).alloc _).alloc _
 have b0 : Bx (((w.alloc (.cells #[.int .i64 a.k, .int .i64 a.n, .string a.s] 46)).alloc (.cells #[.int .i64 b.k, .int .i64 b.n, .string b.s] 46)).alloc (.cells #[.int .i64 nl.k, .int .i64 nl.n, .string nl.s] 46)) (w.heap.size + 1) b := (Bx.new1 w b _).alloc _
 have r0 := Bx.new2 w nl (.cells #[.int .i64 a.k, .int .i64 a.n, .string a.s] 46) (.cells #[.int .i64 b.k, .int .i64 b.n, .string b.s] 46)
 have hb0 := below_three w (.cells #[.int .i64 a.k, .int .i64 a.n, .string a.s] 46) (.cells #[.int .i64 b.k, .int .i64 b.n, .string b.s] 46) (.cells #[.int .i64 nl.k, .int .i64 nl.n, .string nl.s] 46)
 go_enter Tryz.func66, Tryz.ntmps66
 go_wp2_with fail
 refine (rnulls_c a b _).mono ?_
 rintro e w1 ⟨rfl, hc⟩
 rw [Hn.out]
 have r1 := r0.after hc
 have a1 := a0.after hc
 have b1 := b0.after hc
 have hb1 := hb0.trans (hc.mono hb0.size)
 clear hc r0 a0 b0 hb0
 have g0 := r1.cell0
 have g1 := r1.cell1
 have g2 := r1.cell2
 have f0 := r1.frozen 0
 have f1 := r1.frozen 1
 have f2 := r1.frozen 2
 go_wp2
 exact ret_valX (a := nl) (z := .bool true) Tryz.results66 rfl rfl (r1.put nl) rfl ⟨rfl, put3_below hb1 (by omega) nl⟩
set_option maxHeartbeats 1000000 in
theorem do_eq_s (a b : Val) (w : World) (ha : I6n a.n) (hb : I6n b.n) (hn : (a.k == 0 || b.k == 0) = false) : Calls Tryz.prog 66 #[.int .i64 5, a.v, b.v] w fun e w' => e = .returned (.tuple #[(tv (cmpV a b == 0)).v, .bool true]) ∧ Below w.heap.size w w' := by
 have Ha := Lib.hid ha
 have Hb := Lib.hid hb
 clear ha hb
 have Hn := Lib.hid hn
 clear hn
 have a0 : Bx (((w.alloc (.cells #[.int .i64 a.k, .int .i64 a.n, .string a.s] 46)).alloc (.cells #[.int .i64 b.k, .int .i64 b.n, .string b.s] 46)).alloc (.cells #[.int .i64 nl.k, .int .i64 nl.n, .string nl.s] 46)) w.heap.size a := ((Bx.new w a).alloc _).alloc _
 have b0 : Bx (((w.alloc (.cells #[.int .i64 a.k, .int .i64 a.n, .string a.s] 46)).alloc (.cells #[.int .i64 b.k, .int .i64 b.n, .string b.s] 46)).alloc (.cells #[.int .i64 nl.k, .int .i64 nl.n, .string nl.s] 46)) (w.heap.size + 1) b := (Bx.new1 w b _).alloc _
 have r0 := Bx.new2 w nl (.cells #[.int .i64 a.k, .int .i64 a.n, .string a.s] 46) (.cells #[.int .i64 b.k, .int .i64 b.n, .string b.s] 46)
 have hb0 := below_three w (.cells #[.int .i64 a.k, .int .i64 a.n, .string a.s] 46) (.cells #[.int .i64 b.k, .int .i64 b.n, .string b.s] 46) (.cells #[.int .i64 nl.k, .int .i64 nl.n, .string nl.s] 46)
 obtain ⟨R, hR⟩ : ∃ R, tv (cmpV a b == 0) = R := ⟨_, rfl⟩
 rw [hR]
 have HR := Lib.hid hR
 clear hR
 go_enter Tryz.func66, Tryz.ntmps66
 go_wp2_with fail
 refine (rnulls_c a b _).mono ?_
 rintro e w1 ⟨rfl, hc⟩
 rw [Hn.out]
 have r1 := r0.after hc
 have a1 := a0.after hc
 have b1 := b0.after hc
 have hb1 := hb0.trans (hc.mono hb0.size)
 clear hc r0 a0 b0 hb0
 have x0 := a1.cell0
 have y0 := b1.cell0
 have x1 := a1.cell1
 have y1 := b1.cell1
 have x2 := a1.cell2
 have y2 := b1.cell2
 go_wp2_with fail
 clear x0 x1 x2 y0 y1 y2
 refine (rcompare_c a b _).mono ?_
 rintro e w2 ⟨rfl, hc⟩
 have r2 := r1.after hc
 have a2 := a1.after hc
 have b2 := b1.after hc
 have hb2 := hb1.trans (hc.mono hb1.size)
 clear hc r1 a1 b1 hb1
 go_wp2_with fail
 refine (rtruth_c (cmpV a b == 0) _).mono ?_
 rintro e w3 ⟨rfl, hc⟩
 rw [HR.out]
 have r3 := r2.after hc
 have a3 := a2.after hc
 have b3 := b2.after hc
 have hb3 := hb2.trans (hc.mono hb2.size)
 clear hc r2 a2 b2 hb2
 have g0 := r3.cell0
 have g1 := r3.cell1
 have g2 := r3.cell2
 have f0 := r3.frozen 0
 have f1 := r3.frozen 1
 have f2 := r3.frozen 2
 go_wp2
 exact ret_valX (a := R) (z := .bool true) Tryz.results66 rfl rfl (r3.put R) rfl ⟨rfl, put3_below hb3 (by omega) R⟩
set_option maxHeartbeats 1000000 in
theorem do_less_n (a b : Val) (w : World) (ha : I6n a.n) (hb : I6n b.n) (hn : (a.k == 0 || b.k == 0) = true) : Calls Tryz.prog 66 #[.int .i64 6, a.v, b.v] w fun e w' => e = .returned (.tuple #[(nl).v, .bool true]) ∧ Below w.heap.size w w' := by
 have Ha := Lib.hid ha
 have Hb := Lib.hid hb
 clear ha hb
 have Hn := Lib.hid hn
 clear hn
 have a0 : Bx (((w.alloc (.cells #[.int .i64 a.k, .int .i64 a.n, .string a.s] 46)).alloc (.cells #[.int .i64 b.k, .int .i64 b.n, .string b.s] 46)).alloc (.cells #[.int .i64 nl.k, .int .i64 nl.n, .string nl.s] 46)) w.heap.size a := ((Bx.new w a).alloc _).alloc _
 have b0 : Bx (((w.alloc (.cells #[.int .i64 a.k, .int .i64 a.n, .string a.s] 46)).alloc (.cells #[.int .i64 b.k, .int .i64 b.n, .string b.s] 46)).alloc (.cells #[.int .i64 nl.k, .int .i64 nl.n, .string nl.s] 46)) (w.heap.size + 1) b := (Bx.new1 w b _).alloc _
 have r0 := Bx.new2 w nl (.cells #[.int .i64 a.k, .int .i64 a.n, .string a.s] 46) (.cells #[.int .i64 b.k, .int .i64 b.n, .string b.s] 46)
 have hb0 := below_three w (.cells #[.int .i64 a.k, .int .i64 a.n, .string a.s] 46) (.cells #[.int .i64 b.k, .int .i64 b.n, .string b.s] 46) (.cells #[.int .i64 nl.k, .int .i64 nl.n, .string nl.s] 46)
 go_enter Tryz.func66, Tryz.ntmps66
 go_wp2_with fail
 refine (rnulls_c a b _).mono ?_
 rintro e w1 ⟨rfl, hc⟩
 rw [Hn.out]
 have r1 := r0.after hc
 have a1 := a0.after hc
 have b1 := b0.after hc
 have hb1 := hb0.trans (hc.mono hb0.size)
 clear hc r0 a0 b0 hb0
 have g0 := r1.cell0
 have g1 := r1.cell1
 have g2 := r1.cell2
 have f0 := r1.frozen 0
 have f1 := r1.frozen 1
 have f2 := r1.frozen 2
 go_wp2
 exact ret_valX (a := nl) (z := .bool true) Tryz.results66 rfl rfl (r1.put nl) rfl ⟨rfl, put3_below hb1 (by omega) nl⟩
set_option maxHeartbeats 1000000 in
theorem do_less_s (a b : Val) (w : World) (ha : I6n a.n) (hb : I6n b.n) (hn : (a.k == 0 || b.k == 0) = false) : Calls Tryz.prog 66 #[.int .i64 6, a.v, b.v] w fun e w' => e = .returned (.tuple #[(tv (decide (cmpV a b < 0))).v, .bool true]) ∧ Below w.heap.size w w' := by
 have Ha := Lib.hid ha
 have Hb := Lib.hid hb
 clear ha hb
 have Hn := Lib.hid hn
 clear hn
 have a0 : Bx (((w.alloc (.cells #[.int .i64 a.k, .int .i64 a.n, .string a.s] 46)).alloc (.cells #[.int .i64 b.k, .int .i64 b.n, .string b.s] 46)).alloc (.cells #[.int .i64 nl.k, .int .i64 nl.n, .string nl.s] 46)) w.heap.size a := ((Bx.new w a).alloc _).alloc _
 have b0 : Bx (((w.alloc (.cells #[.int .i64 a.k, .int .i64 a.n, .string a.s] 46)).alloc (.cells #[.int .i64 b.k, .int .i64 b.n, .string b.s] 46)).alloc (.cells #[.int .i64 nl.k, .int .i64 nl.n, .string nl.s] 46)) (w.heap.size + 1) b := (Bx.new1 w b _).alloc _
 have r0 := Bx.new2 w nl (.cells #[.int .i64 a.k, .int .i64 a.n, .string a.s] 46) (.cells #[.int .i64 b.k, .int .i64 b.n, .string b.s] 46)
 have hb0 := below_three w (.cells #[.int .i64 a.k, .int .i64 a.n, .string a.s] 46) (.cells #[.int .i64 b.k, .int .i64 b.n, .string b.s] 46) (.cells #[.int .i64 nl.k, .int .i64 nl.n, .string nl.s] 46)
 obtain ⟨R, hR⟩ : ∃ R, tv (decide (cmpV a b < 0)) = R := ⟨_, rfl⟩
 rw [hR]
 have HR := Lib.hid hR
 clear hR
 go_enter Tryz.func66, Tryz.ntmps66
 go_wp2_with fail
 refine (rnulls_c a b _).mono ?_
 rintro e w1 ⟨rfl, hc⟩
 rw [Hn.out]
 have r1 := r0.after hc
 have a1 := a0.after hc
 have b1 := b0.after hc
 have hb1 := hb0.trans (hc.mono hb0.size)
 clear hc r0 a0 b0 hb0
 have x0 := a1.cell0
 have y0 := b1.cell0
 have x1 := a1.cell1
 have y1 := b1.cell1
 have x2 := a1.cell2
 have y2 := b1.cell2
 go_wp2_with fail
 clear x0 x1 x2 y0 y1 y2
 refine (rcompare_c a b _).mono ?_
 rintro e w2 ⟨rfl, hc⟩
 have r2 := r1.after hc
 have a2 := a1.after hc
 have b2 := b1.after hc
 have hb2 := hb1.trans (hc.mono hb1.size)
 clear hc r1 a1 b1 hb1
 go_wp2_with fail
 refine (rtruth_c (decide (cmpV a b < 0)) _).mono ?_
 rintro e w3 ⟨rfl, hc⟩
 rw [HR.out]
 have r3 := r2.after hc
 have a3 := a2.after hc
 have b3 := b2.after hc
 have hb3 := hb2.trans (hc.mono hb2.size)
 clear hc r2 a2 b2 hb2
 have g0 := r3.cell0
 have g1 := r3.cell1
 have g2 := r3.cell2
 have f0 := r3.frozen 0
 have f1 := r3.frozen 1
 have f2 := r3.frozen 2
 go_wp2
 exact ret_valX (a := R) (z := .bool true) Tryz.results66 rfl rfl (r3.put R) rfl ⟨rfl, put3_below hb3 (by omega) R⟩
theorem do2_c (op : Int) (a b : Val) (w : World) (h2 : 2 ≤ op) (h8 : op ≤ 8) (ha : I6n a.n) (hb : I6n b.n) : Calls Tryz.prog 66 #[.int .i64 op, a.v, b.v] w fun e w' => e = .returned (.tuple #[(cmpR op [a, b]).1.v, .bool (cmpR op [a, b]).2]) ∧ Below w.heap.size w w' := by
 rcases ops_cases op with rfl | rfl | rfl | rfl | rfl | rfl | rfl | rfl | rfl | ⟨e2, e3, e4, e5, e6, e7, e8, _, _⟩
 · exact do_add a b w ha hb
 · exact do_sub a b w ha hb
 · exact do_mul a b w ha hb
 · show Calls _ _ _ _ fun e w' => e = .returned (.tuple #[(unl (cmpV a b == 0) [a, b]).v, .bool true]) ∧ Below w.heap.size w w'
   rw [unl_two]
   cases hn : (a.k == 0 || b.k == 0)
   · exact do_eq_s a b w ha hb hn
   · exact do_eq_n a b w ha hb hn
 · show Calls _ _ _ _ fun e w' => e = .returned (.tuple #[(unl (decide (cmpV a b < 0)) [a, b]).v, .bool true]) ∧ Below w.heap.size w w'
   rw [unl_two]
   cases hn : (a.k == 0 || b.k == 0)
   · exact do_less_s a b w ha hb hn
   · exact do_less_n a b w ha hb hn
 · exact do_and a b w ha hb
 · exact do_or a b w ha hb
 · omega
 · omega
 · simp only [beq_eq_false_iff_ne] at e2 e3 e4 e5 e6 e7 e8
   omega
theorem do1_c (op : Int) (a b : Val) (w : World) (h : op = 9 ∨ op = 10) (ha : I6n a.n) (hb : I6n b.n) : Calls Tryz.prog 66 #[.int .i64 op, a.v, b.v] w fun e w' => e = .returned (.tuple #[(cmpR op [b]).1.v, .bool (cmpR op [b]).2]) ∧ Below w.heap.size w w' := by
 rcases h with rfl | rfl
 · exact do_not a b w ha hb
 · exact do_null a b w ha hb
end Go.Proofs.YtbpopkgpepmlcaaGreat
