/-
  Rows sorted, as the document has it: of at most 100000 rows. In new memory.
-/
import Derived.Test.YthgoflaphbigbaaDoorEv5
import Derived.Test.YthgoflaphbigbaaDoorAppA
namespace Go.Proofs.YthgoflaphbigbaaDoor
open Go Go.RowKit
set_option maxRecDepth 100000

abbrev xsOf (l : List Hd) : List (List Val) := l.map (·.xs)
theorem ins_sorted (l : List Hd) (x : Hd) (j : Nat) (hs : (xsOf l).Pairwise (fun a b => leR a b = true)) (h1 : ∀ h ∈ l.drop j, cmpL h.xs x.xs = 1) (h2 : ∀ p h, j = p + 1 → l[p]? = some h → ¬ 0 < cmpL h.xs x.xs) (hj : j ≤ l.length) : (xsOf (l.take j ++ [x] ++ l.drop j)).Pairwise (fun a b => leR a b = true) := by
  have hle : ∀ h ∈ l.take j, leR h.xs x.xs = true := by
    intro h hh
    cases j with
    | zero => simp at hh
    | succ p =>
      have hp : p < l.length := by omega
      have e := List.getElem?_eq_getElem hp
      have h3 := h2 p _ rfl e
      have h4 : leR (l[p]).xs x.xs = true := decide_eq_true (by omega)
      rw [List.take_add_one, e, Option.toList_some, List.mem_append] at hh
      rcases hh with hh | hh
      · refine leR_trans _ _ _ ?_ h4
        have h5 := hs
        rw [show xsOf l = xsOf (l.take p ++ l.drop p) by rw [List.take_append_drop], xsOf, List.map_append, List.pairwise_append] at h5
        refine h5.2.2 _ (List.mem_map.2 ⟨h, hh, rfl⟩) _ (List.mem_map.2 ⟨l[p], ?_, rfl⟩)
        rw [List.drop_eq_getElem_cons hp]
        exact List.mem_cons_self
      · cases List.mem_singleton.1 hh
        exact h4
  have hgt : ∀ h ∈ l.drop j, leR x.xs h.xs = true := fun h hh => decide_eq_true (by rw [cmpL_neg h.xs x.xs, h1 h hh]; decide)
  have h5 := hs
  rw [show xsOf l = xsOf (l.take j ++ l.drop j) by rw [List.take_append_drop], xsOf, List.map_append, List.pairwise_append] at h5
  unfold xsOf
  rw [List.map_append, List.map_append, List.append_assoc, List.pairwise_append]
  refine ⟨h5.1, ?_, ?_⟩
  · rw [List.map_cons, List.map_nil, List.singleton_append, List.pairwise_cons]
    refine ⟨fun a ha => ?_, h5.2.1⟩
    obtain ⟨h, hh, rfl⟩ := List.mem_map.1 ha
    exact hgt h hh
  · intro a ha b hb
    obtain ⟨h, hh, rfl⟩ := List.mem_map.1 ha
    rw [List.map_cons, List.map_nil, List.singleton_append, List.mem_cons] at hb
    rcases hb with rfl | hb
    · exact hle h hh
    · exact h5.2.2 _ ha _ hb
theorem ins_perm (l m : List Hd) (x : Hd) (j : Nat) (h : l.Perm m) : (l.take j ++ [x] ++ l.drop j).Perm (m ++ [x]) := by
  have h1 : (l.take j ++ [x] ++ l.drop j).Perm (x :: (l.take j ++ l.drop j)) := by
    rw [List.append_assoc]
    exact List.perm_middle
  rw [List.take_append_drop] at h1
  exact h1.trans ((h.cons x).trans (List.perm_append_singleton x m).symm)
theorem SlG.someH {w : World} {A : Option Addr} {xs : List Hd} (h : SlG w A 1 rdH xs) (hk : 0 < xs.length) : ∃ b off, A = some ⟨b, off, none⟩ ∧ b < w.heap.size := by
  obtain ⟨b, off, x, hA, hl, _⟩ := h.at1 hk
  exact ⟨b, off, hA, hl⟩
theorem take_snoc (hs : List Hd) (k : Nat) (x : Hd) (h : hs[k]? = some x) : hs.take (k + 1) = hs.take k ++ [x] := by rw [List.take_add_one, h]; rfl
set_option maxHeartbeats 8000000 in
theorem rsort_c (A : Option Addr) (n c : Nat) (hs : List Hd) (w : World) (hl : hs.length = n) (hn : n ≤ 100000) (hsl : SlG w A 1 rdH hs) (hin : ∀ h ∈ hs, Hd.In w h) :
    Calls Tryd.prog 16 #[.slice A n c] w fun e w' => ∃ A' c' ol, e = .returned (.slice A' n c') ∧ Below w.heap.size w w' ∧ ol.length = n ∧ SlG w' A' 1 rdH ol ∧ ol.Perm hs ∧ xsOf ol = sortR (xsOf hs) := by
  have Hl := Lib.hid hl
  have Hs := Lib.hid hsl
  have Hi := Lib.hid hin
  clear hl hsl hin
  go_enter Tryd.func16, Tryd.ntmps16
  go_wp2_with fail
  go_loopw [3, 4] (fun v i wr => ∃ (k b' off' c' : Nat) (ol : List Hd), k ≤ n ∧ i = .int .i64 k ∧ v = .slice (some ⟨b', off', none⟩) k c' ∧ k ≤ c' ∧ Hid (Below w.heap.size w wr) ∧ Hid (b' < wr.heap.size) ∧ Hid (ol.length = k) ∧ Hid (SlG wr (some ⟨b', off', none⟩) 1 rdH ol) ∧ Hid (ol.Perm (hs.take k)) ∧ Hid ((xsOf ol).Pairwise (fun a b => leR a b = true))) (fun _ i _ => n - (intOf i).toNat)
  case atStart => exact ⟨0, w.heap.size, 0, 0, [], Nat.zero_le _, rfl, rfl, Nat.le_refl _, Lib.hid (below_one _ _), Lib.hid (by simp), Lib.hid rfl, Lib.hid (.inl rfl), Lib.hid (List.Perm.refl _), Lib.hid List.Pairwise.nil⟩
  case round =>
    obtain ⟨k, b', off', c', ol, hk, rfl, rfl, hkc, hb, hb', hol, hos, hop, how⟩ := hrel
    obtain ⟨W, hW⟩ : ∃ W, W = wr := ⟨wr, rfl⟩
    subst hW
    by_cases hlt : k < n
    · obtain ⟨b, off, x, rfl, hblt, hx, c0⟩ := Hs.out.at1 (by rw [Hl.out]; exact hlt)
      have Hcx : Hid (∀ w' : World, Below w.heap.size w w' → w'.cell? ⟨b, off + k, none⟩ = some (.slice x.A x.n x.c) ∧ b < w'.heap.size) := Lib.hid fun w' hb'' => ⟨(hb''.cell hblt).trans (c0 _ rfl), Nat.lt_of_lt_of_le hblt hb''.size⟩
      have Hxi := Lib.hid (Hi.out x (List.mem_of_getElem? hx))
      have Htk := Lib.hid (take_snoc hs k x hx)
      have Hoi : Hid (∀ h ∈ ol, Hd.In w h) := Lib.hid fun h hh => Hi.out h (List.mem_of_mem_take (hop.out.mem_iff.1 hh))
      clear hx c0 hblt
      obtain ⟨xA, xn, xc, xs⟩ := x
      have hlt' : (k : Int) < n := by omega
      go_wp2_with fail
      go_loopw [5] (fun v w2 => ∃ (j : Nat), j ≤ k ∧ v = .int .i64 j ∧ Hid (Below W.heap.size W w2) ∧ Hid (∀ h ∈ ol.drop j, cmpL h.xs xs = 1)) (fun v _ => (intOf v).toNat)
      case atStart => exact ⟨k, Nat.le_refl _, rfl, Lib.hid (Below.refl _ _), Lib.hid (by rw [List.drop_eq_nil_of_le (by rw [hol.out]; exact Nat.le_refl _)]; nofun)⟩
      case round =>
        obtain ⟨j, hj, rfl, hb2, hgt⟩ := hrel
        have HbW := Lib.hid (hb.out.trans (hb2.out.mono hb.out.size))
        have d0 := Lib.hid (Hcx.out _ HbW.out).1
        have l0 := (Hcx.out _ HbW.out).2
        have l1 : b' < wr.heap.size := Nat.lt_of_lt_of_le hb'.out hb2.out.size
        have Hx := Lib.hid (Hxi.out.after HbW.out)
        have Hos := Lib.hid (hos.out.after hb2.out)
        have hjx : j ≤ 9223372036854775807 := by omega
        go_wp2_with fail
        cases hj0 : decide (0 < (j : Int))

        · refine Reg.wp_region_vals mixed (by kernel_rfl) [(16, .int .i64 (j : Nat)), (17, .bool false), (18, .bool false), (19, undef), (20, undef), (21, undef), (22, undef), (23, undef), (24, undef), (25, undef), (26, undef), (27, undef), (28, undef), (29, undef), (30, .bool false)] 51 rfl (by kernel_rfl) ?_ ?_
          · intro F hF w' hB
            have j0 := (hB.cell (p := ⟨b, off + k, none⟩) l0).trans d0.out
            have ix := Hx.out.after hB
            refine ⟨?_, ?_, ?_, ?_, ?_, ?_, ?_, ?_, ?_, ?_, ?_, ?_, ?_, ?_, ?_, trivial⟩
            · exact Reg.doesV_val (ev_move rfl) (by rw [hF]; kernel_rfl) (by rw [hF]; kernel_rfl)
            · exact Reg.doesV_val (by rw [ev_gtC5 (j : Int) 0 rfl (by rw [hF]; kernel_rfl), hj0]) (by rw [hF]; kernel_rfl) (by rw [hF]; kernel_rfl)
            · exact Reg.doesV_val (ev_move rfl) (by rw [hF]; kernel_rfl) (by rw [hF]; kernel_rfl)
            · exact Reg.doesV_skip (by rw [hF]; kernel_rfl) (by rw [hF]; kernel_rfl)
            · exact Reg.doesV_skip (by rw [hF]; kernel_rfl) (by rw [hF]; kernel_rfl)
            · exact Reg.doesV_skip (by rw [hF]; kernel_rfl) (by rw [hF]; kernel_rfl)
            · exact Reg.doesV_skip (by rw [hF]; kernel_rfl) (by rw [hF]; kernel_rfl)
            · exact Reg.doesV_skip (by rw [hF]; kernel_rfl) (by rw [hF]; kernel_rfl)
            · exact Reg.doesV_skip (by rw [hF]; kernel_rfl) (by rw [hF]; kernel_rfl)
            · exact Reg.doesV_skip (by rw [hF]; kernel_rfl) (by rw [hF]; kernel_rfl)
            · exact Reg.doesV_skip (by rw [hF]; kernel_rfl) (by rw [hF]; kernel_rfl)
            · exact Reg.doesV_skip (by rw [hF]; kernel_rfl) (by rw [hF]; kernel_rfl)
            · exact Reg.doesV_skip (by rw [hF]; kernel_rfl) (by rw [hF]; kernel_rfl)
            · exact Reg.doesV_skip (by rw [hF]; kernel_rfl) (by rw [hF]; kernel_rfl)
            · exact Reg.doesV_val (ev_pick false rfl (by rw [hF]; kernel_rfl)) (by rw [hF]; kernel_rfl) (by rw [hF]; kernel_rfl)
          · intro w8 hB
            simp only [Reg.putAll, Act.put, List.setIfInBounds_toArray, List.set_cons_zero, List.set_cons_succ]
            have Hb8 := Lib.hid (HbW.out.trans (hB.mono HbW.out.size))
            have Hos8 := Lib.hid (Hos.out.after hB)
            have Hb'8 := Lib.hid (Nat.lt_of_lt_of_le l1 hB.size)
            have Hne : Hid (∀ p h, j = p + 1 → ol[p]? = some h → ¬ 0 < cmpL h.xs xs) := Lib.hid (fun p h e _ => by have := of_decide_eq_false hj0; omega)
            have HLt : Hid ((ol.take j).length = j) := Lib.hid (by rw [List.length_take, hol.out]; omega)
            have HLd : Hid ((ol.drop j).length = k - j) := Lib.hid (by rw [List.length_drop, hol.out])
            have HD : Hid (SlG w8 (if c' = j then some ⟨b', off', none⟩ else some ⟨b', off' + j, none⟩) 1 rdH (ol.drop j)) := Lib.hid (by
              by_cases h9 : c' = j
              · exact .inl (List.drop_eq_nil_of_le (by rw [hol.out]; omega))
              · rw [if_neg h9]
                exact Hos8.out.dropK j)
            clear hB
            go_wp2_with (at_builtin; go_must (first
              | (refine wpList_appG hOk rfl (.tmp 33) (.tmp 36) rfl w8.heap.size _ ([] : List Hd) (ol.take j) (some ⟨b', off', none⟩) j c' rfl (OwnG.made w8 w8.heap.size _ #[] 0 (Nat.le_refl _) (Nat.zero_le _) rfl) rfl HLt.out ((Hos8.out.takeK j).alloc _) (by rw [HLt.out]; simp [maxLen]; omega) (by rw [HLt.out]; simp; omega) (by simp) ?_
                 intro v1 w9 hv hg
                 rw [List.nil_append] at hv
                 have Hv1 := Lib.hid hv
                 have Hb9 := Lib.hid ((below_one w8 (.cells #[] 31)).grown hg (by simp) (fun k hk => by cases hk; exact Nat.le_refl _))
                 have f0 := (Hcx.out _ (below_via Hb8.out Hb9.out)).1
                 have f1 := (Hcx.out _ (below_via Hb8.out Hb9.out)).2
                 clear hv hg)
              | (refine wpList_appG hOk rfl (.tmp 38) (.tmp 43) rfl w8.heap.size _ (ol.take j) [⟨xA, xn, xc, xs⟩] (some ⟨w9.heap.size, 0, none⟩) 1 1 rfl (Hv1.out.alloc _) rfl rfl (SlG.new hOk.len [⟨xA, xn, xc, xs⟩] rfl) (by rw [HLt.out]; simp [maxLen]; omega) (by rw [HLt.out]; simp; omega) (by have := Hb9.out.size; simp; omega) ?_
                 intro v2 w10 hv hg
                 have Hv2 := Lib.hid hv
                 have Hb10 := Lib.hid ((Hb9.out.alloc Hb9.out.size _).grown hg (by have := Hb9.out.size; simp; omega) (fun k hk => (Hv1.out.lt k hk).1))
                 clear hv hg)
              | (refine wpList_appG hOk rfl (.tmp 45) (.tmp 48) rfl w8.heap.size _ (ol.take j ++ [(⟨xA, xn, xc, xs⟩ : Hd)]) (ol.drop j) (if c' = j then some ⟨b', off', none⟩ else some ⟨b', off' + j, none⟩) (k - j) (c' - j) rfl Hv2.out rfl HLd.out (HD.out.after Hb10.out) (by rw [List.length_append, HLt.out, HLd.out]; simp [maxLen]; omega) (by rw [List.length_append, HLt.out, HLd.out]; simp; omega) Hb10.out.size ?_
                 intro v3 w11 hv hg
                 have Hb11 := Lib.hid (Hb10.out.grown hg Hb10.out.size (fun k hk => (Hv2.out.lt k hk).1))
                 obtain ⟨A3, c3, rfl, hc3, _, hs3⟩ := hv.sl hOk.len
                 have hl3 : (ol.take j ++ [(⟨xA, xn, xc, xs⟩ : Hd)] ++ ol.drop j).length = k + 1 := by rw [List.length_append, List.length_append, HLt.out, HLd.out]; simp; omega
                 obtain ⟨b3, off3, rfl, hb3⟩ := hs3.someH (by rw [hl3]; omega)
                 rw [hl3] at hc3 ⊢
                 have Hl3 := Lib.hid hl3
                 have Hs3 := Lib.hid hs3
                 have Hb3 := Lib.hid hb3
                 clear hv hg hl3 hs3 hb3)))
            go_roundw
            case rel => exact ⟨k + 1, b3, off3, c3, _, by omega, by go_num, rfl, hc3, Lib.hid (below_via Hb8.out Hb11.out), Hb3, Hl3, Hs3, Lib.hid (by rw [Htk.out]; exact ins_perm ol _ _ j hop.out), Lib.hid (ins_sorted ol ⟨xA, xn, xc, xs⟩ j how.out hgt.out Hne.out (by rw [hol.out]; exact hj))⟩
            case measure => simp [intOf]; omega
        · obtain ⟨p, hjp⟩ : ∃ p, j = p + 1 := ⟨j - 1, by have := of_decide_eq_true hj0; omega⟩
          have hpk : p < k := by omega
          obtain ⟨y, hy⟩ : ∃ y, ol[p]? = some y := ⟨_, List.getElem?_eq_getElem (by rw [hol.out]; exact hpk)⟩
          have dq : Hid (wr.cell? ⟨b', off' + p, none⟩ = some (.slice y.A y.n y.c)) := Lib.hid (by
            obtain ⟨b9, off9, y9, e9, _, h9, q9⟩ := Hos.out.at1 (k := p) (by rw [hol.out]; exact hpk)
            rw [hy] at h9
            cases h9
            cases e9
            exact q9 _ rfl)
          have Hy := Lib.hid ((Hoi.out y (List.mem_of_getElem? hy)).after HbW.out)
          have HY := Lib.hid hy
          clear hy
          obtain ⟨yA, yn, yc, ys⟩ := y
          refine Reg.wp_region_vals mixed (by kernel_rfl) [(16, .int .i64 (j : Nat)), (17, .bool true), (18, .bool true), (19, .slice (some ⟨b', off', none⟩) k c'), (20, .int .i64 (j : Nat)), (21, .int .i64 (p : Nat)), (22, .pointer (some ⟨b', off' + p, none⟩)), (23, .slice yA yn yc), (24, .slice (some ⟨b, off, none⟩) n c), (25, .int .i64 (k : Nat)), (26, .pointer (some ⟨b, off + k, none⟩)), (27, .slice xA xn xc), (28, .int .i64 (cmpL ys xs)), (29, .bool (decide (0 < cmpL ys xs))), (30, .bool (decide (0 < cmpL ys xs)))] 51 rfl (by kernel_rfl) ?_ ?_
          · intro F hF w' hB
            have j0 := (hB.cell (p := ⟨b, off + k, none⟩) l0).trans d0.out
            have ix := Hx.out.after hB
            have q0 := (hB.cell (p := ⟨b', off' + p, none⟩) l1).trans dq.out
            have iy := Hy.out.after hB
            refine ⟨?_, ?_, ?_, ?_, ?_, ?_, ?_, ?_, ?_, ?_, ?_, ?_, ?_, ?_, ?_, trivial⟩
            · exact Reg.doesV_val (ev_move rfl) (by rw [hF]; kernel_rfl) (by rw [hF]; kernel_rfl)
            · exact Reg.doesV_val (by rw [ev_gtC5 (j : Int) 0 rfl (by rw [hF]; kernel_rfl), hj0]) (by rw [hF]; kernel_rfl) (by rw [hF]; kernel_rfl)
            · exact Reg.doesV_val (ev_move rfl) (by rw [hF]; kernel_rfl) (by rw [hF]; kernel_rfl)
            · exact Reg.doesV_val (ev_move rfl) (by rw [hF]; kernel_rfl) (by rw [hF]; kernel_rfl)
            · exact Reg.doesV_val (ev_move rfl) (by rw [hF]; kernel_rfl) (by rw [hF]; kernel_rfl)
            · exact Reg.doesV_val (ev_dec5 j p hjp hjx rfl (by rw [hF]; kernel_rfl)) (by rw [hF]; kernel_rfl) (by rw [hF]; kernel_rfl)
            · exact Reg.doesV_val (ev_indexH (b := b') (off := off') (n := k) (c := c') (k := p) hpk rfl (by rw [hF]; kernel_rfl) (by rw [hF]; kernel_rfl)) (by rw [hF]; kernel_rfl) (by rw [hF]; kernel_rfl)
            · exact Reg.doesV_val (ev_ldR (A := yA) (n := yn) (c := yc) q0 rfl (by rw [hF]; kernel_rfl)) (by rw [hF]; kernel_rfl) (by rw [hF]; kernel_rfl)
            · exact Reg.doesV_val (ev_move rfl) (by rw [hF]; kernel_rfl) (by rw [hF]; kernel_rfl)
            · exact Reg.doesV_val (ev_move rfl) (by rw [hF]; kernel_rfl) (by rw [hF]; kernel_rfl)
            · exact Reg.doesV_val (ev_indexH (b := b) (off := off) (n := n) (c := c) (k := k) hlt rfl (by rw [hF]; kernel_rfl) (by rw [hF]; kernel_rfl)) (by rw [hF]; kernel_rfl) (by rw [hF]; kernel_rfl)
            · exact Reg.doesV_val (ev_ldR (A := xA) (n := xn) (c := xc) j0 rfl (by rw [hF]; kernel_rfl)) (by rw [hF]; kernel_rfl) (by rw [hF]; kernel_rfl)
            · exact Reg.doesV_call (rcompareL_c yA xA yn xn yc xc ys xs w' iy.len ix.len iy.max ix.max iy.sl ix.sl) (ev_call enRCompareL rfl (by rw [hF]; kernel_rfl)) (by rw [hF]; kernel_rfl) (by rw [hF]; kernel_rfl)
            · exact Reg.doesV_val (ev_gtC5 (cmpL ys xs) 0 rfl (by rw [hF]; kernel_rfl)) (by rw [hF]; kernel_rfl) (by rw [hF]; kernel_rfl)
            · exact Reg.doesV_val (ev_pick true rfl (by rw [hF]; kernel_rfl)) (by rw [hF]; kernel_rfl) (by rw [hF]; kernel_rfl)
          · intro w8 hB
            simp only [Reg.putAll, Act.put, List.setIfInBounds_toArray, List.set_cons_zero, List.set_cons_succ]
            cases hC : decide (0 < cmpL ys xs)
            · have Hb8 := Lib.hid (HbW.out.trans (hB.mono HbW.out.size))
              have Hos8 := Lib.hid (Hos.out.after hB)
              have Hb'8 := Lib.hid (Nat.lt_of_lt_of_le l1 hB.size)
              have Hne : Hid (∀ p h, j = p + 1 → ol[p]? = some h → ¬ 0 < cmpL h.xs xs) := Lib.hid (fun q h e hq => by have e9 : q = p := (by omega); rw [e9, HY.out] at hq; cases hq; exact of_decide_eq_false hC)
              have HLt : Hid ((ol.take j).length = j) := Lib.hid (by rw [List.length_take, hol.out]; omega)
              have HLd : Hid ((ol.drop j).length = k - j) := Lib.hid (by rw [List.length_drop, hol.out])
              have HD : Hid (SlG w8 (if c' = j then some ⟨b', off', none⟩ else some ⟨b', off' + j, none⟩) 1 rdH (ol.drop j)) := Lib.hid (by
                by_cases h9 : c' = j
                · exact .inl (List.drop_eq_nil_of_le (by rw [hol.out]; omega))
                · rw [if_neg h9]
                  exact Hos8.out.dropK j)
              clear hB hjp
              go_wp2_with (at_builtin; go_must (first
                | (refine wpList_appG hOk rfl (.tmp 33) (.tmp 36) rfl w8.heap.size _ ([] : List Hd) (ol.take j) (some ⟨b', off', none⟩) j c' rfl (OwnG.made w8 w8.heap.size _ #[] 0 (Nat.le_refl _) (Nat.zero_le _) rfl) rfl HLt.out ((Hos8.out.takeK j).alloc _) (by rw [HLt.out]; simp [maxLen]; omega) (by rw [HLt.out]; simp; omega) (by simp) ?_
                   intro v1 w9 hv hg
                   rw [List.nil_append] at hv
                   have Hv1 := Lib.hid hv
                   have Hb9 := Lib.hid ((below_one w8 (.cells #[] 31)).grown hg (by simp) (fun k hk => by cases hk; exact Nat.le_refl _))
                   have f0 := (Hcx.out _ (below_via Hb8.out Hb9.out)).1
                   have f1 := (Hcx.out _ (below_via Hb8.out Hb9.out)).2
                   clear hv hg)
                | (refine wpList_appG hOk rfl (.tmp 38) (.tmp 43) rfl w8.heap.size _ (ol.take j) [⟨xA, xn, xc, xs⟩] (some ⟨w9.heap.size, 0, none⟩) 1 1 rfl (Hv1.out.alloc _) rfl rfl (SlG.new hOk.len [⟨xA, xn, xc, xs⟩] rfl) (by rw [HLt.out]; simp [maxLen]; omega) (by rw [HLt.out]; simp; omega) (by have := Hb9.out.size; simp; omega) ?_
                   intro v2 w10 hv hg
                   have Hv2 := Lib.hid hv
                   have Hb10 := Lib.hid ((Hb9.out.alloc Hb9.out.size _).grown hg (by have := Hb9.out.size; simp; omega) (fun k hk => (Hv1.out.lt k hk).1))
                   clear hv hg)
                | (refine wpList_appG hOk rfl (.tmp 45) (.tmp 48) rfl w8.heap.size _ (ol.take j ++ [(⟨xA, xn, xc, xs⟩ : Hd)]) (ol.drop j) (if c' = j then some ⟨b', off', none⟩ else some ⟨b', off' + j, none⟩) (k - j) (c' - j) rfl Hv2.out rfl HLd.out (HD.out.after Hb10.out) (by rw [List.length_append, HLt.out, HLd.out]; simp [maxLen]; omega) (by rw [List.length_append, HLt.out, HLd.out]; simp; omega) Hb10.out.size ?_
                   intro v3 w11 hv hg
                   have Hb11 := Lib.hid (Hb10.out.grown hg Hb10.out.size (fun k hk => (Hv2.out.lt k hk).1))
                   obtain ⟨A3, c3, rfl, hc3, _, hs3⟩ := hv.sl hOk.len
                   have hl3 : (ol.take j ++ [(⟨xA, xn, xc, xs⟩ : Hd)] ++ ol.drop j).length = k + 1 := by rw [List.length_append, List.length_append, HLt.out, HLd.out]; simp; omega
                   obtain ⟨b3, off3, rfl, hb3⟩ := hs3.someH (by rw [hl3]; omega)
                   rw [hl3] at hc3 ⊢
                   have Hl3 := Lib.hid hl3
                   have Hs3 := Lib.hid hs3
                   have Hb3 := Lib.hid hb3
                   clear hv hg hl3 hs3 hb3)))
              go_roundw
              case rel => exact ⟨k + 1, b3, off3, c3, _, by omega, by go_num, rfl, hc3, Lib.hid (below_via Hb8.out Hb11.out), Hb3, Hl3, Hs3, Lib.hid (by rw [Htk.out]; exact ins_perm ol _ _ j hop.out), Lib.hid (ins_sorted ol ⟨xA, xn, xc, xs⟩ j how.out hgt.out Hne.out (by rw [hol.out]; exact hj))⟩
              case measure => simp [intOf]; omega
            · have hd1 : Hid (∀ h ∈ ol.drop p, cmpL h.xs xs = 1) := Lib.hid (by
                intro h hh
                have hpl : p < ol.length := by rw [hol.out]; exact hpk
                rw [List.drop_eq_getElem_cons hpl, List.mem_cons] at hh
                rcases hh with rfl | hh
                · have e := HY.out
                  rw [List.getElem?_eq_getElem hpl] at e
                  have e2 := of_decide_eq_true hC
                  rw [Option.some.inj e]
                  rcases cmpL_range ys xs with q | q | q <;> first | exact q | omega
                · rw [← hjp] at hh
                  exact hgt.out h hh)
              have Hb8 := Lib.hid (hb2.out.trans (hB.mono hb2.out.size))
              clear hB
              have hw : IntKind.i64.wrap ((j : Int) - 1) = (j : Int) - 1 := by rw [IntKind.wrap_i64]; omega
              go_wp2
              go_roundw
              case rel => exact ⟨p, by omega, congrArg (Value.int .i64) (by omega), Hb8, hd1⟩
              case measure => simp [intOf]; omega
    · obtain rfl : k = n := by omega
      have Hp : Hid (ol.Perm hs) := Lib.hid (by
        have := hop.out
        rw [show hs.take k = hs from List.take_of_length_le (by rw [Hl.out]; exact Nat.le_refl _)] at this
        exact this)
      clear hop
      go_wp2
      go_ret
      exact ⟨some ⟨b', off', none⟩, c', ol, rfl, hb.out, hol.out, hos.out, Hp.out, sortR_of (Hp.out.map _) how.out⟩
end Go.Proofs.YthgoflaphbigbaaDoor
