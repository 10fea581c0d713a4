/-
  The law RowSorts, walked: of any rows and number it answers true, and turns nothing that was there.
-/
import Derived.Test.YtbhliihmipbfjaaDoorParts4
import Derived.Test.YtbhliihmipbfjaaDoorAppA
import Derived.Deep.RegionHeld3
namespace Go.Proofs.YtbhliihmipbfjaaDoor
open Go Go.RowKit
set_option maxRecDepth 100000
attribute [local go_sem ↓] Go.wp_at_zero Go.wp_at_succ

theorem shortRR_parts {l : List (List Val)} (h : shortRR l = true) : l.length ≤ 100 ∧ ∀ r ∈ l, r.length ≤ 40 := by
  unfold shortRR at h
  simp only [Bool.and_eq_true, decide_eq_true_eq, List.all_eq_true] at h
  refine ⟨h.2, fun r hr => ?_⟩
  have := h.1 r hr
  unfold shortB at this
  simp only [Bool.and_eq_true, decide_eq_true_eq] at this
  exact this.2
theorem RowIn.hd {w : World} {h : Hd} (hr : RowIn w h.A h.n h.xs) : Hd.In w h := ⟨hr.len, hr.max, hr.sl⟩

set_option maxHeartbeats 4000000 in
theorem sorts4_c (A : Option Addr) (n c : Nat) (hs : List Hd) (at_ : Int) (w : World) (hn : hs.length = n) (hm : n ≤ maxLen) (hc : n ≤ c) (hsl : SlG w A 1 rdH hs) (hin : ∀ h ∈ hs, RowIn w h.A h.n h.xs) (hat : -9223372036854775808 ≤ at_ ∧ at_ ≤ 9223372036854775807) (hG : Gl w) :
    Calls Tryd.prog 3 #[.slice A n c, .int .i64 at_] w fun en w' => en = .returned (.bool true) ∧ Below w.heap.size w w' := by
  have Hn := Lib.hid hn
  have Hm := Lib.hid hm
  have Hs := Lib.hid hsl
  have Hi := Lib.hid hin
  have HG := Lib.hid hG
  clear hn hsl hin hG hm
  go_enter Tryd.func3, Tryd.ntmps3
  go_wp2_with fail
  refine (fixed_c _ HG.out).mono ?_
  rintro en w1 ⟨rfl, hb1⟩
  have Hb1 := Lib.hid hb1
  clear hb1
  go_wp2_with fail
  refine (shortRows_c A n c hs _ Hn.out Hm.out (Hs.out.after Hb1.out) (fun h hh => ((Hi.out h hh).after Hb1.out).hd) (fun h hh => (Hi.out h hh).sz)).mono ?_
  rintro en w2 ⟨rfl, hb2⟩
  have Hb2 := Lib.hid (below_via Hb1.out hb2)
  clear hb2 Hb1
  cases hsh : shortRR (hs.map (·.xs))
  case false =>
    go_wp2_with fail
    refine (fixed_c _ (HG.out.after Hb2.out)).mono ?_
    rintro en w9 ⟨rfl, hb9⟩
    have Hb9 := Lib.hid (below_via Hb2.out hb9)
    clear hb9
    go_wp2
    go_ret
    exact ⟨rfl, Hb9.out⟩
  obtain ⟨h100, h40⟩ := shortRR_parts hsh
  rw [List.length_map, Hn.out] at h100
  have H40 : Hid (∀ h ∈ hs, h.n ≤ 100000) := Lib.hid fun h hh => by
    have := h40 h.xs (List.mem_map.2 ⟨h, hh, rfl⟩)
    rw [(Hi.out h hh).len] at this
    omega
  clear h40 hsh
  go_wp2_with fail
  refine (sort_c A n c hs _ Hn.out (by omega) (Hs.out.after Hb2.out) (fun h hh => ⟨((Hi.out h hh).after Hb2.out).hd, H40.out h hh⟩)).mono ?_
  rintro en w3 ⟨g, ks, rfl, hb3, _, hks, hki, hkm, hkl⟩
  have Hb3 := Lib.hid (below_via Hb2.out hb3)
  have Hks := Lib.hid hks
  have Hki := Lib.hid hki
  have Hkm := Lib.hid hkm
  have Hkl := Lib.hid hkl
  clear hb3 Hb2 hks hki hkm hkl
  go_wp2_with fail
  go_loopw [6] (fun q wr => ∃ i : Nat, i ≤ n ∧ q = .int .i64 i ∧ Hid (Below w3.heap.size w3 wr)) (fun q _ => n - (intOf q).toNat)
  case atStart => exact ⟨0, Nat.zero_le _, rfl, Lib.hid (Below.refl _ _)⟩
  case round =>
    obtain ⟨i, hi, rfl, Hb⟩ := hrel
    by_cases hlt : i < n
    · obtain ⟨b', off', y, e1, hblt, hy, c0⟩ := Hks.out.at1 (k := i) (by rw [Hkl.out]; exact hlt)
      injection e1 with e1
      injection e1 with e1 e2
      subst e1 e2
      have hymem := List.mem_of_getElem? hy
      have lg : g < wr.heap.size := Nat.lt_of_lt_of_le hblt Hb.out.size
      have dy := Lib.hid ((Hb.out.cell (p := ⟨g, 0 + i, none⟩) hblt).trans (c0 _ rfl))
      have Hy := Lib.hid ((Hki.out y hymem).after Hb.out)
      have Hks3 := Lib.hid (Hks.out.after Hb.out)
      have Hki3 : Hid (∀ h ∈ ks, Hd.In wr h) := Lib.hid fun h hh => (Hki.out h hh).after Hb.out
      have Hs3 := Lib.hid ((Hs.out.after Hb3.out).after Hb.out)
      have Hi3 : Hid (∀ h ∈ hs, Hd.In wr h) := Lib.hid fun h hh => (((Hi.out h hh).after Hb3.out).hd).after Hb.out
      have Hcnt : Hid ((((cntR (ks.map (·.xs)) y.xs : Nat) : Int) != (cntR (hs.map (·.xs)) y.xs : Nat)) = false) := by
        have : cntR (ks.map (·.xs)) y.xs = cntR (hs.map (·.xs)) y.xs := by rw [Hkm.out]; exact cntR_perm (sortR_perm _) _
        exact Lib.hid (by rw [this]; simp)
      by_cases hi0 : 0 < i
      · obtain ⟨i1, hi1⟩ : ∃ i1, i = i1 + 1 := ⟨i - 1, by omega⟩
        have hlt1 : i1 < n := by omega
        have g0 : decide ((0 : Int) < (i : Nat)) = true := decide_eq_true (by omega)
        have g1 : ((i : Nat) : Int) - 1 = (i1 : Nat) := by omega
        obtain ⟨b2, off2, x, e1, _, hx, c1⟩ := Hks.out.at1 (k := i1) (by rw [Hkl.out]; exact hlt1)
        injection e1 with e1
        injection e1 with e1 e2
        subst e1 e2
        have dx := Lib.hid ((Hb.out.cell (p := ⟨g, 0 + i1, none⟩) hblt).trans (c1 _ rfl))
        have Hx := Lib.hid ((Hki.out x (List.mem_of_getElem? hx)).after Hb.out)
        have Hcmp : Hid (decide (0 < cmpL x.xs y.xs) = false) := by
          have hle := sortR_rises (hs.map (·.xs)) i1 x.xs y.xs (by rw [← Hkm.out]; exact xs_at hx) (by rw [← Hkm.out, ← hi1]; exact xs_at hy)
          exact Lib.hid (decide_eq_false (by omega))
        clear hy hx c0 c1 hblt hymem
        have hi64 : (i : Int) ≤ 100 := by omega
        have G := Lib.hid (And.intro g0 g1)
        have Hi1 := Lib.hid hi1
        clear g0 g1 hi1
        go_wp2_with fail
        refine Reg.wp_region_vals mixed (by kernel_rfl) [(28, .int .i64 (i : Nat)), (29, .bool true), (30, .bool true), (31, .slice (some ⟨g, 0, none⟩) n n), (32, .int .i64 (i : Nat)), (33, .int .i64 (i1 : Nat)), (34, .pointer (some ⟨g, 0 + i1, none⟩)), (35, x.v), (36, .slice (some ⟨g, 0, none⟩) n n), (37, .int .i64 (i : Nat)), (38, .pointer (some ⟨g, 0 + i, none⟩)), (39, y.v), (40, .int .i64 (cmpL x.xs y.xs)), (41, .bool false), (42, .bool false), (43, .bool false), (44, .slice (some ⟨g, 0, none⟩) n n), (45, .slice (some ⟨g, 0, none⟩) n n), (46, .int .i64 (i : Nat)), (47, .pointer (some ⟨g, 0 + i, none⟩)), (48, y.v), (49, .int .i64 (cntR (ks.map (·.xs)) y.xs : Nat)), (50, .slice A n c), (51, .slice (some ⟨g, 0, none⟩) n n), (52, .int .i64 (i : Nat)), (53, .pointer (some ⟨g, 0 + i, none⟩)), (54, y.v), (55, .int .i64 (cntR (hs.map (·.xs)) y.xs : Nat)), (56, .bool false), (57, .bool false)] 78 rfl (by kernel_rfl) ?_ ?_
        · intro F hF w' hB
          have iks := Hks3.out.after hB
          have ikin : ∀ h ∈ ks, Hd.In w' h := fun h hh => (Hki3.out h hh).after hB
          have ihs := Hs3.out.after hB
          have ihin : ∀ h ∈ hs, Hd.In w' h := fun h hh => (Hi3.out h hh).after hB
          have iy := Hy.out.after hB
          have jy := (hB.cell (p := ⟨g, 0 + i, none⟩) lg).trans dy.out
          have g3 := Hcnt.out
          have ix := Hx.out.after hB
          have jx := (hB.cell (p := ⟨g, 0 + i1, none⟩) lg).trans dx.out
          have g2 := Hcmp.out
          have g0 := G.out.1
          have g1 := G.out.2
          refine ⟨?_, ?_, ?_, ?_, ?_, ?_, ?_, ?_, ?_, ?_, ?_, ?_, ?_, ?_, ?_, ?_, ?_, ?_, ?_, ?_, ?_, ?_, ?_, ?_, ?_, ?_, ?_, ?_, ?_, ?_, trivial⟩
          · exact Reg.doesV_val (ev_move rfl) (by rw [hF]; kernel_rfl) (by rw [hF]; kernel_rfl)
          · exact Reg.doesV_val (by rw [ev_gtIC (i : Nat) 0 rfl (by rw [hF]; kernel_rfl), g0]) (by rw [hF]; kernel_rfl) (by rw [hF]; kernel_rfl)
          · exact Reg.doesV_val (ev_move rfl) (by rw [hF]; kernel_rfl) (by rw [hF]; kernel_rfl)
          · exact Reg.doesV_val (ev_move rfl) (by rw [hF]; kernel_rfl) (by rw [hF]; kernel_rfl)
          · exact Reg.doesV_val (ev_move rfl) (by rw [hF]; kernel_rfl) (by rw [hF]; kernel_rfl)
          · exact Reg.doesV_val (by rw [ev_subIC (i : Nat) 1 (by omega) rfl (by rw [hF]; kernel_rfl), g1]) (by rw [hF]; kernel_rfl) (by rw [hF]; kernel_rfl)
          · exact Reg.doesV_val (ev_indexH (b := g) (off := 0) (n := n) (c := n) (k := i1) hlt1 rfl (by rw [hF]; kernel_rfl) (by rw [hF]; kernel_rfl)) (by rw [hF]; kernel_rfl) (by rw [hF]; kernel_rfl)
          · exact Reg.doesV_val (ev_loadH (h := x) jx rfl (by rw [hF]; kernel_rfl)) (by rw [hF]; kernel_rfl) (by rw [hF]; kernel_rfl)
          · exact Reg.doesV_val (ev_move rfl) (by rw [hF]; kernel_rfl) (by rw [hF]; kernel_rfl)
          · exact Reg.doesV_val (ev_move rfl) (by rw [hF]; kernel_rfl) (by rw [hF]; kernel_rfl)
          · exact Reg.doesV_val (ev_indexH (b := g) (off := 0) (n := n) (c := n) (k := i) hlt rfl (by rw [hF]; kernel_rfl) (by rw [hF]; kernel_rfl)) (by rw [hF]; kernel_rfl) (by rw [hF]; kernel_rfl)
          · exact Reg.doesV_val (ev_loadH (h := y) jy rfl (by rw [hF]; kernel_rfl)) (by rw [hF]; kernel_rfl) (by rw [hF]; kernel_rfl)
          · exact Reg.doesV_call (rcompareL_c x.A y.A x.n y.n x.c y.c x.xs y.xs w' ix.len iy.len ix.max iy.max ix.sl iy.sl) (ev_call enRCompareL rfl (by rw [hF]; kernel_rfl)) (by rw [hF]; kernel_rfl) (by rw [hF]; kernel_rfl)
          · exact Reg.doesV_val (by rw [ev_gtIC (cmpL x.xs y.xs) 0 rfl (by rw [hF]; kernel_rfl), g2]) (by rw [hF]; kernel_rfl) (by rw [hF]; kernel_rfl)
          · exact Reg.doesV_val (ev_pick true rfl (by rw [hF]; kernel_rfl)) (by rw [hF]; kernel_rfl) (by rw [hF]; kernel_rfl)
          · exact Reg.doesV_val (ev_move rfl) (by rw [hF]; kernel_rfl) (by rw [hF]; kernel_rfl)
          · exact Reg.doesV_val (ev_move rfl) (by rw [hF]; kernel_rfl) (by rw [hF]; kernel_rfl)
          · exact Reg.doesV_val (ev_move rfl) (by rw [hF]; kernel_rfl) (by rw [hF]; kernel_rfl)
          · exact Reg.doesV_val (ev_move rfl) (by rw [hF]; kernel_rfl) (by rw [hF]; kernel_rfl)
          · exact Reg.doesV_val (ev_indexH (b := g) (off := 0) (n := n) (c := n) (k := i) hlt rfl (by rw [hF]; kernel_rfl) (by rw [hF]; kernel_rfl)) (by rw [hF]; kernel_rfl) (by rw [hF]; kernel_rfl)
          · exact Reg.doesV_val (ev_loadH (h := y) jy rfl (by rw [hF]; kernel_rfl)) (by rw [hF]; kernel_rfl) (by rw [hF]; kernel_rfl)
          · exact Reg.doesV_call (count_c (some ⟨g, 0, none⟩) n n ks y w' Hkl.out (by unfold maxLen; omega) iks ikin iy) (ev_call enCount rfl (by rw [hF]; kernel_rfl)) (by rw [hF]; kernel_rfl) (by rw [hF]; kernel_rfl)
          · exact Reg.doesV_val (ev_move rfl) (by rw [hF]; kernel_rfl) (by rw [hF]; kernel_rfl)
          · exact Reg.doesV_val (ev_move rfl) (by rw [hF]; kernel_rfl) (by rw [hF]; kernel_rfl)
          · exact Reg.doesV_val (ev_move rfl) (by rw [hF]; kernel_rfl) (by rw [hF]; kernel_rfl)
          · exact Reg.doesV_val (ev_indexH (b := g) (off := 0) (n := n) (c := n) (k := i) hlt rfl (by rw [hF]; kernel_rfl) (by rw [hF]; kernel_rfl)) (by rw [hF]; kernel_rfl) (by rw [hF]; kernel_rfl)
          · exact Reg.doesV_val (ev_loadH (h := y) jy rfl (by rw [hF]; kernel_rfl)) (by rw [hF]; kernel_rfl) (by rw [hF]; kernel_rfl)
          · exact Reg.doesV_call (count_c A n c hs y w' Hn.out (by unfold maxLen; omega) ihs ihin iy) (ev_call enCount rfl (by rw [hF]; kernel_rfl)) (by rw [hF]; kernel_rfl) (by rw [hF]; kernel_rfl)
          · exact Reg.doesV_val (by rw [ev_neII _ _ rfl (by rw [hF]; kernel_rfl) (by rw [hF]; kernel_rfl), g3]) (by rw [hF]; kernel_rfl) (by rw [hF]; kernel_rfl)
          · exact Reg.doesV_val (ev_pick false rfl (by rw [hF]; kernel_rfl)) (by rw [hF]; kernel_rfl) (by rw [hF]; kernel_rfl)
        · intro w8 hB
          simp only [Reg.putAll, Act.put, List.setIfInBounds_toArray, List.set_cons_zero, List.set_cons_succ]
          have Hb8 := Lib.hid (below_via Hb.out hB)
          clear hB Hb Hks3 Hki3 Hs3 Hi3 Hy dy Hcnt Hx dx Hcmp Hi1
          go_wp2
          go_roundw
          case rel => exact ⟨i + 1, by omega, by go_num, Hb8⟩
          case measure => simp [intOf]; omega
      · have g0 : decide ((0 : Int) < (i : Nat)) = false := decide_eq_false (by omega)
        clear hy c0 hblt hymem
        have G := Lib.hid g0
        clear g0
        go_wp2_with fail
        refine Reg.wp_region_vals mixed (by kernel_rfl) [(28, .int .i64 (i : Nat)), (29, .bool false), (30, .bool false), (31, undef), (32, undef), (33, undef), (34, undef), (35, undef), (36, undef), (37, undef), (38, undef), (39, undef), (40, undef), (41, undef), (42, .bool false), (43, .bool false), (44, .slice (some ⟨g, 0, none⟩) n n), (45, .slice (some ⟨g, 0, none⟩) n n), (46, .int .i64 (i : Nat)), (47, .pointer (some ⟨g, 0 + i, none⟩)), (48, y.v), (49, .int .i64 (cntR (ks.map (·.xs)) y.xs : Nat)), (50, .slice A n c), (51, .slice (some ⟨g, 0, none⟩) n n), (52, .int .i64 (i : Nat)), (53, .pointer (some ⟨g, 0 + i, none⟩)), (54, y.v), (55, .int .i64 (cntR (hs.map (·.xs)) y.xs : Nat)), (56, .bool false), (57, .bool false)] 78 rfl (by kernel_rfl) ?_ ?_
        · intro F hF w' hB
          have iks := Hks3.out.after hB
          have ikin : ∀ h ∈ ks, Hd.In w' h := fun h hh => (Hki3.out h hh).after hB
          have ihs := Hs3.out.after hB
          have ihin : ∀ h ∈ hs, Hd.In w' h := fun h hh => (Hi3.out h hh).after hB
          have iy := Hy.out.after hB
          have jy := (hB.cell (p := ⟨g, 0 + i, none⟩) lg).trans dy.out
          have g3 := Hcnt.out
          have g0 := G.out
          refine ⟨?_, ?_, ?_, ?_, ?_, ?_, ?_, ?_, ?_, ?_, ?_, ?_, ?_, ?_, ?_, ?_, ?_, ?_, ?_, ?_, ?_, ?_, ?_, ?_, ?_, ?_, ?_, ?_, ?_, ?_, trivial⟩
          · exact Reg.doesV_val (ev_move rfl) (by rw [hF]; kernel_rfl) (by rw [hF]; kernel_rfl)
          · exact Reg.doesV_val (by rw [ev_gtIC (i : Nat) 0 rfl (by rw [hF]; kernel_rfl), g0]) (by rw [hF]; kernel_rfl) (by rw [hF]; kernel_rfl)
          · exact Reg.doesV_val (ev_move rfl) (by rw [hF]; kernel_rfl) (by rw [hF]; kernel_rfl)
          · exact Reg.doesV_skip (by rw [hF]; kernel_rfl) (by rw [hF]; kernel_rfl)
          · exact Reg.doesV_skip (by rw [hF]; kernel_rfl) (by rw [hF]; kernel_rfl)
          · exact Reg.doesV_skip (by rw [hF]; kernel_rfl) (by rw [hF]; kernel_rfl)
          · exact Reg.doesV_skip (by rw [hF]; kernel_rfl) (by rw [hF]; kernel_rfl)
          · exact Reg.doesV_skip (by rw [hF]; kernel_rfl) (by rw [hF]; kernel_rfl)
          · exact Reg.doesV_skip (by rw [hF]; kernel_rfl) (by rw [hF]; kernel_rfl)
          · exact Reg.doesV_skip (by rw [hF]; kernel_rfl) (by rw [hF]; kernel_rfl)
          · exact Reg.doesV_skip (by rw [hF]; kernel_rfl) (by rw [hF]; kernel_rfl)
          · exact Reg.doesV_skip (by rw [hF]; kernel_rfl) (by rw [hF]; kernel_rfl)
          · exact Reg.doesV_skip (by rw [hF]; kernel_rfl) (by rw [hF]; kernel_rfl)
          · exact Reg.doesV_skip (by rw [hF]; kernel_rfl) (by rw [hF]; kernel_rfl)
          · exact Reg.doesV_val (ev_pick false rfl (by rw [hF]; kernel_rfl)) (by rw [hF]; kernel_rfl) (by rw [hF]; kernel_rfl)
          · exact Reg.doesV_val (ev_move rfl) (by rw [hF]; kernel_rfl) (by rw [hF]; kernel_rfl)
          · exact Reg.doesV_val (ev_move rfl) (by rw [hF]; kernel_rfl) (by rw [hF]; kernel_rfl)
          · exact Reg.doesV_val (ev_move rfl) (by rw [hF]; kernel_rfl) (by rw [hF]; kernel_rfl)
          · exact Reg.doesV_val (ev_move rfl) (by rw [hF]; kernel_rfl) (by rw [hF]; kernel_rfl)
          · exact Reg.doesV_val (ev_indexH (b := g) (off := 0) (n := n) (c := n) (k := i) hlt rfl (by rw [hF]; kernel_rfl) (by rw [hF]; kernel_rfl)) (by rw [hF]; kernel_rfl) (by rw [hF]; kernel_rfl)
          · exact Reg.doesV_val (ev_loadH (h := y) jy rfl (by rw [hF]; kernel_rfl)) (by rw [hF]; kernel_rfl) (by rw [hF]; kernel_rfl)
          · exact Reg.doesV_call (count_c (some ⟨g, 0, none⟩) n n ks y w' Hkl.out (by unfold maxLen; omega) iks ikin iy) (ev_call enCount rfl (by rw [hF]; kernel_rfl)) (by rw [hF]; kernel_rfl) (by rw [hF]; kernel_rfl)
          · exact Reg.doesV_val (ev_move rfl) (by rw [hF]; kernel_rfl) (by rw [hF]; kernel_rfl)
          · exact Reg.doesV_val (ev_move rfl) (by rw [hF]; kernel_rfl) (by rw [hF]; kernel_rfl)
          · exact Reg.doesV_val (ev_move rfl) (by rw [hF]; kernel_rfl) (by rw [hF]; kernel_rfl)
          · exact Reg.doesV_val (ev_indexH (b := g) (off := 0) (n := n) (c := n) (k := i) hlt rfl (by rw [hF]; kernel_rfl) (by rw [hF]; kernel_rfl)) (by rw [hF]; kernel_rfl) (by rw [hF]; kernel_rfl)
          · exact Reg.doesV_val (ev_loadH (h := y) jy rfl (by rw [hF]; kernel_rfl)) (by rw [hF]; kernel_rfl) (by rw [hF]; kernel_rfl)
          · exact Reg.doesV_call (count_c A n c hs y w' Hn.out (by unfold maxLen; omega) ihs ihin iy) (ev_call enCount rfl (by rw [hF]; kernel_rfl)) (by rw [hF]; kernel_rfl) (by rw [hF]; kernel_rfl)
          · exact Reg.doesV_val (by rw [ev_neII _ _ rfl (by rw [hF]; kernel_rfl) (by rw [hF]; kernel_rfl), g3]) (by rw [hF]; kernel_rfl) (by rw [hF]; kernel_rfl)
          · exact Reg.doesV_val (ev_pick false rfl (by rw [hF]; kernel_rfl)) (by rw [hF]; kernel_rfl) (by rw [hF]; kernel_rfl)
        · intro w8 hB
          simp only [Reg.putAll, Act.put, List.setIfInBounds_toArray, List.set_cons_zero, List.set_cons_succ]
          have Hb8 := Lib.hid (below_via Hb.out hB)
          clear hB Hb Hks3 Hki3 Hs3 Hi3 Hy dy Hcnt
          go_wp2
          go_roundw
          case rel => exact ⟨i + 1, by omega, by go_num, Hb8⟩
          case measure => simp [intOf]; omega
    · obtain rfl : i = n := by omega
      have Hb4 := Lib.hid (below_via Hb3.out (Hb.out))
      by_cases h0 : at_ < 0
      · go_wp2
        go_ret
        exact ⟨rfl, Hb4.out⟩
      by_cases h1 : (i : Int) ≤ at_
      · go_wp2
        go_ret
        exact ⟨rfl, Hb4.out⟩
      obtain ⟨k, rfl⟩ : ∃ k : Nat, at_ = k := ⟨at_.toNat, by omega⟩
      have hki' : k < i := by omega
      have hkc : (k : Int) ≤ c := by omega
      have hk0 : (0 : Int) ≤ (k : Int) := by omega
      have hki2 : (k : Int) ≤ i := by omega
      clear h0 h1 hat
      have hck : ¬ c = k := by omega
      have Hs3 := Lib.hid ((Hs.out.after Hb3.out).after Hb.out)
      obtain ⟨b, off, h0, rfl, _, _, _⟩ := Hs3.out.at1 (k := k) (by rw [Hn.out]; exact hki')
      go_wp2_with fail
      have HO1 : Hid (OwnH (wr.alloc (.cells #[] 28)) wr.heap.size (.slice (some ⟨wr.heap.size, 0, none⟩) 0 0) []) := OwnG.made wr wr.heap.size _ #[] 0 (Nat.le_refl _) (Nat.zero_le _) rfl
      have HD1 := Lib.hid ((Hs3.out.dropK k).alloc (.cells #[] 28))
      have hld : (hs.drop k).length = i - k := by rw [List.length_drop, Hn.out]
      have hlt' : (hs.take k).length = k := by rw [List.length_take, Hn.out]; omega
      have Hld := Lib.hid hld
      have Hlt' := Lib.hid hlt'
      clear hld hlt'
      have Hrot : Hid (sortR ((hs.drop k ++ hs.take k).map (·.xs)) = sortR (hs.map (·.xs))) := by
        refine Lib.hid (sortR_same ?_)
        exact ((List.perm_append_comm).trans (by rw [List.take_append_drop])).map _
      have Hinr : Hid (∀ h ∈ hs.drop k ++ hs.take k, Hd.In wr h ∧ h.n ≤ 100000) := Lib.hid fun h hh => by
        have hm : h ∈ hs := by
          rcases List.mem_append.1 hh with hh | hh
          · exact List.mem_of_mem_drop hh
          · exact List.mem_of_mem_take hh
        exact ⟨((((Hi.out h hm).after Hb3.out).hd).after Hb.out), H40.out h hm⟩
      have HT1 := Lib.hid (Hs3.out.takeK k)
      have Hks3 := Lib.hid (Hks.out.after Hb.out)
      have Hki3 : Hid (∀ h ∈ ks, Hd.In wr h) := Lib.hid fun h hh => (Hki.out h hh).after Hb.out
      clear Hs3 Hks Hki Hi Hs HG Hm H40
      go_region_held3 (fun _ => True) (trivial)
        (first
          | (refine step_appA hOk (by rfl) (.tmp 66) (.tmp 69) (by rfl) wr.heap.size (.slice (some ⟨wr.heap.size, 0, none⟩) 0 0) ([] : List Hd) (hs.drop k) (by rfl) HO1.out (some ⟨b, off + k, none⟩) (i - k) (c - k) (by rfl) Hld.out HD1.out (by unfold maxLen; rw [Hld.out]; simp only [List.length_nil]; omega) (by rw [Hld.out]; simp only [List.length_nil]; omega) (by simp) ?_
             intro A7 c7 w7 hv7 hg7
             rw [Hld.out] at hv7 ⊢
             have Hb7 : Hid (Below wr.heap.size wr w7) := Lib.hid (((below_one wr (.cells #[] 28)).drew).grown hg7 (by simp) (fun k hk => by cases hk; exact Nat.le_refl _))
             have HO7 := Lib.hid hv7
             have HT7 := Lib.hid (HT1.out.after Hb7.out)
             clear hv7 hg7)
          | (refine step_appA hOk (by rfl) (.tmp 70) (.tmp 73) (by rfl) wr.heap.size (.slice A7 (([] : List Hd).length + (i - k)) c7) ([] ++ hs.drop k) (hs.take k) (by rfl) HO7.out (some ⟨b, off, none⟩) k c (by rfl) Hlt'.out HT7.out (by unfold maxLen; rw [Hlt'.out, List.nil_append, Hld.out]; omega) (by rw [Hlt'.out, List.nil_append, Hld.out]; omega) Hb7.out.size ?_
             intro A8 c8 w8 hv8 hg8
             rw [List.nil_append, Hld.out, Hlt'.out, show i - k + k = i by omega] at hv8
             rw [List.nil_append, Hld.out, Hlt'.out, show i - k + k = i by omega]
             have Hb8 : Hid (Below wr.heap.size wr w8) := Lib.hid (Hb7.out.grown hg8 Hb7.out.size (fun k hk => (HO7.out.lt k hk).1))
             have HO8 := Lib.hid hv8
             clear hv8 hg8)
          | (go_at_call 10
             obtain ⟨A8', c8', e8, _, _, hs8⟩ := HO8.out.sl hOk.len
             refine (sort_c A8 i c8 (hs.drop k ++ hs.take k) _ (by rw [List.length_append, Hld.out, Hlt'.out]; omega) (by omega) (by injection e8 with e8; rw [e8]; exact hs8) (fun h hh => ⟨(Hinr.out h hh).1.after Hb8.out, (Hinr.out h hh).2⟩)).mono ?_
             clear e8 hs8
             rintro en w9 ⟨g9, k9, rfl, hb9, _, hks9, hki9, hkm9, hkl9⟩
             have Hb9 := Lib.hid (below_via Hb8.out hb9)
             have Hks9 := Lib.hid hks9
             have Hki9 := Lib.hid hki9
             have Hkm9 := Lib.hid (hkm9.trans Hrot.out)
             have Hkl9 := Lib.hid hkl9
             clear hb9 hks9 hki9 hkm9 hkl9)
          | (go_at_call 13
             refine (sameRows_c (some ⟨g9, 0, none⟩) (some ⟨g, 0, none⟩) i i i i k9 ks _ Hkl9.out Hkl.out (by unfold maxLen; omega) (by unfold maxLen; omega) Hks9.out Hki9.out (Hks3.out.after Hb9.out) (fun h hh => (Hki3.out h hh).after Hb9.out)).mono ?_
             rintro en w10 ⟨rfl, hb10⟩
             have Hb10 := Lib.hid (below_via Hb4.out (below_via Hb9.out hb10))
             have e10 : sameR (k9.map (·.xs)) (ks.map (·.xs)) = true := by rw [Hkm9.out, Hkm.out]; exact sameR_self _
             rw [e10]
             clear hb10 e10))
      clear HO1 HD1 HT1 Hks3 Hki3 Hinr Hrot Hld Hlt'
      go_wp2
      go_ret
      exact ⟨rfl, Hb10.out⟩
end Go.Proofs.YtbhliihmipbfjaaDoor
