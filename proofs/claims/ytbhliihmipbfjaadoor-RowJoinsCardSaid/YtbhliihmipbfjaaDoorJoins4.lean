/-
  The law RowJoins, walked: of any two rows and columns it answers true, and turns nothing that was there.
-/
import Derived.Test.YtbhliihmipbfjaaDoorEv4
import Derived.Test.YtbhliihmipbfjaaDoorAppA
import Derived.Deep.RegionHeld3
namespace Go.Proofs.YtbhliihmipbfjaaDoor
open Go Go.RowKit
set_option maxRecDepth 100000
attribute [local go_sem ↓] Go.wp_at_zero Go.wp_at_succ

/-- So many numbers from s on. -/
def rng (s k : Nat) : List Int := (List.range' s k).map fun i : Nat => (i : Int)
theorem rng_succ (s k : Nat) : rng s (k + 1) = rng s k ++ [((s + k : Nat) : Int)] := by
  unfold rng
  rw [List.range'_1_concat, List.map_append]
  rfl
theorem rng_len (s k : Nat) : (rng s k).length = k := by simp [rng]
theorem pick_rng (zs : List Val) : ∀ (k s : Nat), s + k ≤ zs.length → pickR zs (rng s k) = some ((zs.drop s).take k)
  | 0, s, _ => by simp [rng, pickR]
  | k + 1, s, h => by
    have hs : s < zs.length := by omega
    have e : rng s (k + 1) = ((s : Nat) : Int) :: rng (s + 1) k := by
      unfold rng
      rw [List.range'_succ]
      rfl
    rw [e, pickR, if_pos ⟨by omega, by omega⟩, Int.toNat_natCast, List.getElem?_eq_getElem hs]
    simp only []
    rw [pick_rng zs k (s + 1) (by omega), List.drop_eq_getElem_cons hs]
    rfl
theorem pick_first (xs ys : List Val) : pickR (xs ++ ys) (rng 0 xs.length) = some xs := by
  rw [pick_rng _ _ _ (by simp)]
  simp
theorem pick_second (xs ys : List Val) : pickR (xs ++ ys) (rng xs.length ys.length) = some ys := by
  rw [pick_rng _ _ _ (by simp)]
  simp

set_option maxHeartbeats 4000000 in
theorem joins4_c (hx hy : Hd) (A1 B1 : Option Addr) (n1 c1 m1 d1 : Nat) (ks1 : List Int) (bs1 : List Bool) (pv1 : Value) (A2 B2 : Option Addr) (n2 c2 m2 d2 : Nat) (ks2 : List Int) (bs2 : List Bool) (pv2 : Value) (w : World)
    (hX : RowIn w hx.A hx.n hx.xs) (hY : RowIn w hy.A hy.n hy.xs) (hk1 : ColIn w A1 B1 n1 m1 ks1 bs1) (hk2 : ColIn w A2 B2 n2 m2 ks2 bs2) (hG : Gl w) :
    Calls Tryd.prog 4 #[.agg #[hx.v, hy.v], .agg #[.slice A1 n1 c1, .slice B1 m1 d1, pv1], .agg #[.slice A2 n2 c2, .slice B2 m2 d2, pv2]] w fun en w' => en = .returned (.bool true) ∧ Below w.heap.size w w' := by
  obtain ⟨xA, n, c, xs⟩ := hx
  obtain ⟨yA, m, d, ys⟩ := hy
  simp only [] at hX hY
  have HX0 := Lib.hid hX
  have HY0 := Lib.hid hY
  have Hk10 := Lib.hid hk1
  have Hk20 := Lib.hid hk2
  have HG0 := Lib.hid hG
  clear hX hY hk1 hk2 hG
  go_enter Tryd.func4, Tryd.ntmps4
  go_wp2_with fail
  obtain ⟨W0, hW0, HW, hlz, hz0, hz1, Hbx, Hby⟩ : ∃ W0, ((w.alloc (.cells #[.slice xA n c, .slice yA m d] 32)).alloc (.cells #[.slice A1 n1 c1, .slice B1 m1 d1, pv1] 36)).alloc (.cells #[.slice A2 n2 c2, .slice B2 m2 d2, pv2] 36) = W0 ∧ Hid (Below w.heap.size w W0) ∧ w.heap.size < W0.heap.size ∧ W0.cell? ⟨w.heap.size, 0, none⟩ = some (.slice xA n c) ∧ W0.cell? ⟨w.heap.size, 1, none⟩ = some (.slice yA m d) ∧ Hid (CBx W0 (w.heap.size + 1) (.slice A1 n1 c1) (.slice B1 m1 d1)) ∧ Hid (CBx W0 (w.heap.size + 1 + 1) (.slice A2 n2 c2) (.slice B2 m2 d2)) := by
    refine ⟨_, rfl, Lib.hid (below_al (below_al (below_one _ _) _) _), by simp; omega, ?_, ?_, Lib.hid ((CBx.newAt (by simp)).after (below_one _ _)), Lib.hid (CBx.newAt (by simp))⟩
    · rw [World.cell?_alloc_past _ _ _ (by simp; omega), World.cell?_alloc_past _ _ _ (by simp)]
      simp
    · rw [World.cell?_alloc_past _ _ _ (by simp; omega), World.cell?_alloc_past _ _ _ (by simp)]
      simp
  rw [hW0]
  clear hW0
  have HX := Lib.hid (HX0.out.after HW.out)
  have HY := Lib.hid (HY0.out.after HW.out)
  have Hk1 := Lib.hid (Hk10.out.after HW.out)
  have Hk2 := Lib.hid (Hk20.out.after HW.out)
  have HG := Lib.hid (HG0.out.after HW.out)
  clear HX0 HY0 Hk10 Hk20 HG0
  obtain ⟨gz, gx, gy, hgz, hgx, hgy⟩ : ∃ gz gx gy, w.heap.size = gz ∧ w.heap.size + 1 = gx ∧ w.heap.size + 1 + 1 = gy := ⟨_, _, _, rfl, rfl, rfl⟩
  rw [hgy] at Hby ⊢
  rw [hgx] at Hbx ⊢
  rw [hgz] at hlz hz0 hz1 ⊢
  clear hgz hgx hgy
  go_region
  have Hb0 : Hid (Below W0.heap.size W0 W0.drew) := Lib.hid (Below.refl _ _).drew
  clear hz0 hz1 hlz
  go_wp2_with fail
  refine (fixed_c _ (HG.out.after Hb0.out)).mono ?_
  rintro en w1 ⟨rfl, hb1⟩
  have Hb1 := Lib.hid (below_via Hb0.out hb1)
  clear hb1 Hb0
  by_cases h20 : 20 < n
  case pos =>
    go_wp2_with fail
    refine (fixed_c _ (HG.out.after Hb1.out)).mono ?_
    rintro en w9 ⟨rfl, hb9⟩
    have Hb9 := Lib.hid (HW.out.trans ((below_via Hb1.out hb9).mono HW.out.size))
    clear hb9
    go_wp2
    go_ret
    exact ⟨rfl, Hb9.out⟩
  by_cases h20' : 20 < m
  case pos =>
    go_wp2_with fail
    refine (fixed_c _ (HG.out.after Hb1.out)).mono ?_
    rintro en w9 ⟨rfl, hb9⟩
    have Hb9 := Lib.hid (HW.out.trans ((below_via Hb1.out hb9).mono HW.out.size))
    clear hb9
    go_wp2
    go_ret
    exact ⟨rfl, Hb9.out⟩
  have hn20 : n ≤ 20 := by omega
  have hm20 : m ≤ 20 := by omega
  have g1 : decide ((20 : Int) < (n : Int)) = false := decide_eq_false (by omega)
  have g2 : decide ((20 : Int) < (m : Int)) = false := decide_eq_false (by omega)
  have g1' : decide (20 < n) = false := decide_eq_false (by omega)
  have g2' : decide (20 < m) = false := decide_eq_false (by omega)
  clear h20 h20'
  have hjn : joinR [⟨xA, n, c, xs⟩, ⟨yA, m, d, ys⟩] = xs ++ ys := by simp [joinR]
  have Hjn := Lib.hid hjn
  have hll : (xs ++ ys).length = n + m := by rw [List.length_append, HX.out.len, HY.out.len]
  have Hll := Lib.hid hll
  clear hjn hll
  go_wp2_with fail
  refine (join_c (some ⟨w1.heap.size, 0, none⟩) 2 2 [⟨xA, n, c, xs⟩, ⟨yA, m, d, ys⟩] _ rfl (by unfold maxLen; omega) (SlG.newAt rfl hOk.len [⟨xA, n, c, xs⟩, ⟨yA, m, d, ys⟩] rfl) (fun h hh => by
    simp only [List.mem_cons, List.not_mem_nil, or_false] at hh
    rcases hh with rfl | rfl
    · exact ⟨HX.out.len, HX.out.max, ((HX.out.after Hb1.out).after (below_one _ _)).sl⟩
    · exact ⟨HY.out.len, HY.out.max, ((HY.out.after Hb1.out).after (below_one _ _)).sl⟩) (by rw [Hjn.out, Hll.out]; omega)).mono ?_
  rintro en w2 ⟨v, rfl, hb2, hv⟩
  have Hb2 := Lib.hid (below_via (below_al Hb1.out _) hb2)
  rw [Hjn.out] at hv
  obtain ⟨⟨jA, jn, jc, jxs⟩, rfl, hji, hjx, _, _⟩ := hv.hd
  simp only [] at hjx
  subst hjx
  have hjl := hji.len
  simp only [Hll.out] at hjl
  subst hjl
  have Hji := Lib.hid hji
  clear hb2 hv hji Hb1 Hjn
  dsimp only [Hd.v]
  go_wp2_with fail
  -- the two lists of numbers
  obtain ⟨w3, hw3, Hb3, HA3, HB3, Hji3⟩ : ∃ w3, (w2.alloc (.cells #[] 3)).alloc (.cells #[] 3) = w3 ∧ Hid (Below w2.heap.size w2 w3) ∧ Hid (OwnI w3 w2.heap.size (.slice (some ⟨w2.heap.size, 0, none⟩) 0 0) (rng 0 0)) ∧ Hid (OwnI w3 w2.heap.size (.slice (some ⟨w2.heap.size + 1, 0, none⟩) 0 0) (rng n 0)) ∧ Hid (Hd.In w3 ⟨jA, n + m, jc, xs ++ ys⟩) :=
    ⟨_, rfl, Lib.hid (below_two _ _ _), Lib.hid ((OwnG.made w2 w2.heap.size _ #[] 0 (Nat.le_refl _) (Nat.zero_le _) rfl).alloc _), Lib.hid (by rw [show rng n 0 = [] from rfl]; have := OwnG.made (rd := rdI) (S := 1) (w2.alloc (.cells #[] 3)) w2.heap.size 3 #[] 0 (by simp) (Nat.zero_le _) rfl; simpa using this), Lib.hid (Hji.out.after (below_two _ _ _))⟩
  have Hap : Hid (Apart (.slice (some ⟨w2.heap.size + 1, 0, none⟩) 0 0) (.slice (some ⟨w2.heap.size, 0, none⟩) 0 0)) := Lib.hid fun k hk hk' => by
    injection hk with hk
    injection hk' with hk'
    have h1 : w2.heap.size + 1 = k := hk
    have h2 : w2.heap.size = k := hk'
    omega
  rw [hw3]
  clear hw3
  obtain ⟨q1, q2, hq1, hq2⟩ : ∃ q1 q2 : Value, (.slice (some ⟨w2.heap.size, 0, none⟩) 0 0 : Value) = q1 ∧ (.slice (some ⟨w2.heap.size + 1, 0, none⟩) 0 0 : Value) = q2 := ⟨_, _, rfl, rfl⟩
  rw [hq1] at HA3 Hap ⊢
  rw [hq2] at HB3 Hap ⊢
  clear hq1 hq2
  go_loopw [10, 12] (fun v i wr => ∃ j : Nat, j ≤ n ∧ i = .int .i64 j ∧ Hid (Below w2.heap.size w2 wr) ∧ Hid (OwnI wr w2.heap.size v (rng 0 j)) ∧ Hid (OwnI wr w2.heap.size q2 (rng n 0)) ∧ Hid (Apart q2 v)) (fun _ i _ => n - (intOf i).toNat)
  case atStart => exact ⟨0, Nat.zero_le _, rfl, Hb3, HA3, HB3, Hap⟩
  case round =>
    obtain ⟨j, hj, rfl, hb, ho, hq, hap⟩ := hrel
    clear Hb3 HA3 HB3 Hap Hji3
    by_cases hlt : j < n
    · obtain ⟨A', c', hv⟩ := ho.out.isSlice
      rw [rng_len] at hv
      subst hv
      go_wp2_with (at_builtin; go_must (
        refine wpList_appL iOk rfl (.tmp 47) (.tmp 49) rfl w2.heap.size _ (rng 0 j) [((j : Nat) : Int)] (some ⟨wr.heap.size, 0, none⟩) 1 1 rfl (ho.out.alloc _) rfl rfl (SlG.new iOk.len [((j : Nat) : Int)] rfl) (by rw [rng_len]; simp [maxLen]; omega) (by rw [rng_len]; simp; omega) (by have := hb.out.size; simp; omega) ?_
        intro v3 w4 hv3 hg3 hl3
        have e3 : rng 0 j ++ [((j : Nat) : Int)] = rng 0 (j + 1) := by rw [rng_succ, Nat.zero_add]
        rw [e3] at hv3
        have Hv3 := Lib.hid hv3
        have Hb4 := Lib.hid ((hb.out.alloc hb.out.size _).grown hg3 (by have := hb.out.size; simp; omega) (fun k hk => (ho.out.lt k hk).1))
        have Hq3 := Lib.hid (hq.out.keep hg3 (fun k hk => Below.heap_alloc _ _ k hk) (by simp) hap.out)
        have Hap3 := Lib.hid (hap.out.app hq.out (by simp) hl3)
        clear hv3 hg3 e3 hl3))
      go_roundw
      case rel => exact ⟨j + 1, by omega, by go_num, Hb4, Hv3, Hq3, Hap3⟩
      case measure => simp [intOf]; omega
    · obtain rfl : j = n := by omega
      have Hap1 := Lib.hid hap.out.symm
      have Ho := ho
      have Hb := hb
      clear hap ho hb
      go_wp2_with fail
      go_loopw [11, 13] (fun v i wr => ∃ q : Nat, q ≤ m ∧ i = .int .i64 q ∧ Hid (Below w2.heap.size w2 wr) ∧ Hid (OwnI wr w2.heap.size u10 (rng 0 j)) ∧ Hid (OwnI wr w2.heap.size v (rng j q)) ∧ Hid (Apart u10 v)) (fun _ i _ => m - (intOf i).toNat)
      case atStart => exact ⟨0, Nat.zero_le _, rfl, Hb, Ho, hq, Hap1⟩
      case round =>
        obtain ⟨q, hqm, rfl, hb, h1, h2, hap⟩ := hrel
        clear Ho Hb hq Hap1
        by_cases hlt : q < m
        · obtain ⟨A', c', hv⟩ := h2.out.isSlice
          rw [rng_len] at hv
          subst hv
          go_wp2_with (at_builtin; go_must (
            refine wpList_appL iOk rfl (.tmp 57) (.tmp 62) rfl w2.heap.size _ (rng j q) [((j : Nat) : Int) + ((q : Nat) : Int)] (some ⟨wr.heap.size, 0, none⟩) 1 1 rfl (h2.out.alloc _) rfl rfl (SlG.new iOk.len [((j : Nat) : Int) + ((q : Nat) : Int)] rfl) (by rw [rng_len]; simp [maxLen]; omega) (by rw [rng_len]; simp; omega) (by have := hb.out.size; simp; omega) ?_
            intro v3 w4 hv3 hg3 hl3
            have e3 : rng j q ++ [((j : Nat) : Int) + ((q : Nat) : Int)] = rng j (q + 1) := by rw [rng_succ, Int.natCast_add]
            rw [e3] at hv3
            have Hv3 := Lib.hid hv3
            have Hb4 := Lib.hid ((hb.out.alloc hb.out.size _).grown hg3 (by have := hb.out.size; simp; omega) (fun k hk => (h2.out.lt k hk).1))
            have Hq3 := Lib.hid (h1.out.keep hg3 (fun k hk => Below.heap_alloc _ _ k hk) (by simp) hap.out)
            have Hap3 := Lib.hid (hap.out.app h1.out (by simp) hl3)
            clear hv3 hg3 hl3 e3))
          go_roundw
          case rel => exact ⟨q + 1, by omega, by go_num, Hb4, Hq3, Hv3, Hap3⟩
          case measure => simp [intOf]; omega
        · obtain rfl : q = m := by omega
          obtain ⟨A10, c10, rfl, _, _, hs10⟩ := h1.out.sl iOk.len
          obtain ⟨A11, c11, rfl, _, _, hs11⟩ := h2.out.sl iOk.len
          rw [rng_len, rng_len]
          have Hs10 := Lib.hid hs10
          have Hs11 := Lib.hid hs11
          have Hj := Lib.hid (Hji.out.after hb.out)
          have Hb5 := Lib.hid (below_via Hb2.out hb.out)
          have hxl : xs.length = j := HX.out.len
          have hyl : ys.length = q := HY.out.len
          have Hp1 : Hid (pickR (xs ++ ys) (rng 0 j) = some xs) := Lib.hid (by have := pick_first xs ys; rw [hxl] at this; exact this)
          have Hp2 : Hid (pickR (xs ++ ys) (rng j q) = some ys) := Lib.hid (by have := pick_second xs ys; rw [hxl, hyl] at this; exact this)
          clear hs10 hs11 h1 h2 hap hb Hji Hb2 hxl hyl
          go_wp2_with fail
          refine (pick_c jA A10 (j + q) jc j c10 (xs ++ ys) (rng 0 j) _ Hj.out.len Hj.out.max Hj.out.sl (rng_len _ _) (by omega) Hs10.out).mono ?_
          rintro en w6 ⟨⟨pA, pn, pc, pxs⟩, ok, rfl, hb6, hp, hok⟩
          unfold pickOk at hok
          rw [Hp1.out] at hok
          simp only [] at hok
          obtain ⟨rfl, rfl⟩ := hok
          have Hb6 := Lib.hid (below_via Hb5.out hb6)
          have Hj6 := Lib.hid (Hj.out.after hb6)
          have Hs6 := Lib.hid (Hs11.out.after hb6)
          have Hp6 := Lib.hid hp
          clear hb6 hp Hb5 Hj Hs10 Hs11 Hp1
          go_wp2_with fail
          refine (pick_c jA A11 (j + q) jc q c11 (pxs ++ ys) (rng j q) _ Hj6.out.len Hj6.out.max Hj6.out.sl (rng_len _ _) (by omega) Hs6.out).mono ?_
          rintro en w7 ⟨⟨qA, qn, qc, qxs⟩, ok, rfl, hb7, hp, hok⟩
          unfold pickOk at hok
          rw [Hp2.out] at hok
          simp only [] at hok
          obtain ⟨rfl, rfl⟩ := hok
          have Hb7 := Lib.hid (below_via Hb6.out hb7)
          have Hj7 := Lib.hid (Hj6.out.after hb7)
          have Hp7 := Lib.hid (Hp6.out.after hb7)
          have Hq7 := Lib.hid hp
          clear hb7 hp Hb6 Hj6 Hs6 Hp6 Hp2
          go_wp2_with fail
          refine (same_c pA xA pn j pc c pxs pxs _ Hp7.out.len HX.out.len Hp7.out.max HX.out.max Hp7.out.sl (HX.out.after Hb7.out).sl).mono ?_
          rintro en w8 ⟨rfl, hb8⟩
          rw [cmpL_same]
          have Hb8 := Lib.hid (below_via Hb7.out hb8)
          have Hj8 := Lib.hid (Hj7.out.after hb8)
          have Hq8 := Lib.hid (Hq7.out.after hb8)
          clear hb8 Hb7 Hj7 Hp7 Hq7
          go_wp2_with fail
          refine (same_c qA yA qn q qc d qxs qxs _ Hq8.out.len HY.out.len Hq8.out.max HY.out.max Hq8.out.sl (HY.out.after Hb8.out).sl).mono ?_
          rintro en w9 ⟨rfl, hb9⟩
          rw [cmpL_same]
          have Hb9 := Lib.hid (below_via Hb8.out hb9)
          have Hj9 := Lib.hid (Hj8.out.after hb9)
          clear hb9 Hb8 Hj8 Hq8
          have cx0 := (Hbx.out.after Hb9.out).c0
          have cx1 := (Hbx.out.after Hb9.out).c1
          have lx := (Hbx.out.after Hb9.out).lt
          go_wp2_with fail
          refine (fits_c xA A1 B1 j c n1 c1 m1 d1 pxs ks1 bs1 _ HX.out.len HX.out.max (HX.out.after Hb9.out).sl HX.out.sz Hk1.out.kl Hk1.out.km (Hk1.out.after Hb9.out).ks Hk1.out.bl Hk1.out.bm (Hk1.out.after Hb9.out).bs).mono ?_
          rintro en w10 ⟨rfl, hb10⟩
          have Hb10 := Lib.hid (below_via Hb9.out hb10)
          have Hj10 := Lib.hid (Hj9.out.after hb10)
          clear hb10 Hb9 Hj9 cx0 cx1 lx
          cases hf1 : fitsR pxs ks1 bs1
          case false =>
            have HbF := Lib.hid (HW.out.trans (Hb10.out.mono HW.out.size))
            go_wp2
            go_ret
            exact ⟨rfl, HbF.out⟩
          have Hf1 := Lib.hid hf1
          clear hf1
          have cy0 := (Hby.out.after Hb10.out).c0
          have cy1 := (Hby.out.after Hb10.out).c1
          have ly := (Hby.out.after Hb10.out).lt
          go_wp2_with fail
          refine (fits_c yA A2 B2 q d n2 c2 m2 d2 qxs ks2 bs2 _ HY.out.len HY.out.max (HY.out.after Hb10.out).sl HY.out.sz Hk2.out.kl Hk2.out.km (Hk2.out.after Hb10.out).ks Hk2.out.bl Hk2.out.bm (Hk2.out.after Hb10.out).bs).mono ?_
          rintro en w11 ⟨rfl, hb11⟩
          have Hb11 := Lib.hid (below_via Hb10.out hb11)
          have Hj11 := Lib.hid (Hj10.out.after hb11)
          clear hb11 Hb10 Hj10 cy0 cy1 ly
          cases hf2 : fitsR qxs ks2 bs2
          case false =>
            have HbF := Lib.hid (HW.out.trans (Hb11.out.mono HW.out.size))
            go_wp2
            go_ret
            exact ⟨rfl, HbF.out⟩
          have Hf : Hid (fitsR (pxs ++ qxs) (ks1 ++ ks2) (bs1 ++ bs2) = true) := Lib.hid (fits_app Hf1.out hf2 (by rw [Hll.out]; omega))
          obtain ⟨_, hl1, hl2, _⟩ := fits_parts Hf1.out
          obtain ⟨_, hl3, hl4, _⟩ := fits_parts hf2
          rw [HX.out.len, Hk1.out.kl] at hl1
          rw [HX.out.len, Hk1.out.bl] at hl2
          rw [HY.out.len, Hk2.out.kl] at hl3
          rw [HY.out.len, Hk2.out.bl] at hl4
          have Hl := Lib.hid (And.intro hl1 (And.intro hl2 (And.intro hl3 hl4)))
          clear hf2 Hf1 hl1 hl2 hl3 hl4
          have K1 := Lib.hid (Hk1.out.after Hb11.out)
          have K2 := Lib.hid (Hk2.out.after Hb11.out)
          have cx0 := (Hbx.out.after Hb11.out).c0
          have cx1 := (Hbx.out.after Hb11.out).c1
          have lx := (Hbx.out.after Hb11.out).lt
          have cy0 := (Hby.out.after Hb11.out).c0
          have cy1 := (Hby.out.after Hb11.out).c1
          have ly := (Hby.out.after Hb11.out).lt
          have HS : Hid (∀ w' : World, Below w11.heap.size w11 w' → w'.cell? ⟨gx, 0, none⟩ = some (.slice A1 n1 c1) ∧ w'.cell? ⟨gx, 1, none⟩ = some (.slice B1 m1 d1) ∧ w'.cell? ⟨gy, 0, none⟩ = some (.slice A2 n2 c2) ∧ w'.cell? ⟨gy, 1, none⟩ = some (.slice B2 m2 d2)) := Lib.hid fun w' hb' => ⟨(hb'.cell lx).trans cx0, (hb'.cell lx).trans cx1, (hb'.cell ly).trans cy0, (hb'.cell ly).trans cy1⟩
          have HIa : Hid (OwnI (w11.alloc (.cells #[] 3)) w11.heap.size (.slice (some ⟨w11.heap.size, 0, none⟩) 0 0) []) := Lib.hid (OwnG.made w11 w11.heap.size _ #[] 0 (Nat.le_refl _) (Nat.zero_le _) rfl)
          have HId : Hid (OwnI ((w11.alloc (.cells #[] 4)).alloc (.cells #[] 3)) w11.heap.size (.slice (some ⟨w11.heap.size + 1, 0, none⟩) 0 0) []) := Lib.hid (by have := OwnG.made (rd := rdI) (S := 1) (w11.alloc (.cells #[] 4)) w11.heap.size 3 #[] 0 (by simp) (Nat.zero_le _) rfl; simpa using this)
          have HBc : Hid (OwnB ((w11.alloc (.cells #[] 3)).alloc (.cells #[] 4)) w11.heap.size (.slice (some ⟨w11.heap.size + 1, 0, none⟩) 0 0) []) := Lib.hid (by have := OwnG.made (rd := rdB) (S := 1) (w11.alloc (.cells #[] 3)) w11.heap.size 4 #[] 0 (by simp) (Nat.zero_le _) rfl; simpa using this)
          have HBd : Hid (OwnB ((w11.alloc (.cells #[] 4)).alloc (.cells #[] 3)) w11.heap.size (.slice (some ⟨w11.heap.size, 0, none⟩) 0 0) []) := Lib.hid ((OwnG.made w11 w11.heap.size _ #[] 0 (Nat.le_refl _) (Nat.zero_le _) rfl).alloc _)
          have HPc : Hid (Apart (.slice (some ⟨w11.heap.size + 1, 0, none⟩) 0 0) (.slice (some ⟨w11.heap.size, 0, none⟩) 0 0)) := Lib.hid (fun k hk hk' => by
            injection hk with hk
            injection hk' with hk'
            have h1 : w11.heap.size + 1 = k := hk
            have h2 : w11.heap.size = k := hk'
            omega)
          have HPd := Lib.hid HPc.out.symm
          have hi1 : ([] : List Int).length + ks1.length = n1 := by rw [Hk1.out.kl]; simp
          have hi2 : ks1.length + ks2.length = n1 + n2 := by rw [Hk1.out.kl, Hk2.out.kl]
          have hb1 : ([] : List Bool).length + bs1.length = m1 := by rw [Hk1.out.bl]; simp
          have hb2 : bs1.length + bs2.length = m1 + m2 := by rw [Hk1.out.bl, Hk2.out.bl]
          have HI1 := Lib.hid hi1
          have HI2 := Lib.hid hi2
          have HB1 := Lib.hid hb1
          have HB2 := Lib.hid hb2
          clear hi1 hi2 hb1 hb2
          go_wp2_with fail
          go_region_held3 (fun w' => w'.cell? ⟨gx, 0, none⟩ = some (.slice A1 n1 c1) ∧ w'.cell? ⟨gx, 1, none⟩ = some (.slice B1 m1 d1) ∧ w'.cell? ⟨gy, 0, none⟩ = some (.slice A2 n2 c2) ∧ w'.cell? ⟨gy, 1, none⟩ = some (.slice B2 m2 d2))
            (first
              | exact HS.out _ HbS.out
              | go_keep)
            (first
              | (refine step_appL iOk (by rfl) (.tmp 121) (.tmp 123) (by rfl) w11.heap.size _ ([] : List Int) ks1 (by rfl) HIa.out A1 n1 c1 (by rfl) Hk1.out.kl (by first | exact K1.out.ks.alloc (.cells #[] 3) | exact (K1.out.ks.alloc (.cells #[] 3)).alloc (.cells #[] 4) | exact (K1.out.ks.alloc (.cells #[] 4)).alloc (.cells #[] 3)) (by rw [HI1.out]; unfold maxLen; have := Hl.out; omega) (by rw [HI1.out]; have := Hl.out; omega) (by first | (simp; done) | (simp; omega)) ?_
                 intro A4 c4 w12 hv hg hl
                 rw [List.nil_append] at hv
                 rw [HI1.out] at hv hl ⊢
                 have HbS : Hid (Below w11.heap.size w11 w12) := Lib.hid (((below_one w11 (.cells #[] 3)).drew).grown hg (by first | (simp; done) | (simp; omega)) (fun k hk => by cases hk; first | (simp; done) | (simp; omega)))
                 have HI4 := Lib.hid hv
                 clear hv hg hl)
              | (refine step_appL iOk (by rfl) (.tmp 121) (.tmp 123) (by rfl) w11.heap.size _ ([] : List Int) ks1 (by rfl) (HIa.out.alloc (.cells #[] 4)) A1 n1 c1 (by rfl) Hk1.out.kl (by first | exact K1.out.ks.alloc (.cells #[] 3) | exact (K1.out.ks.alloc (.cells #[] 3)).alloc (.cells #[] 4) | exact (K1.out.ks.alloc (.cells #[] 4)).alloc (.cells #[] 3)) (by rw [HI1.out]; unfold maxLen; have := Hl.out; omega) (by rw [HI1.out]; have := Hl.out; omega) (by first | (simp; done) | (simp; omega)) ?_
                 intro A4 c4 w12 hv hg hl
                 rw [List.nil_append] at hv
                 rw [HI1.out] at hv hl ⊢
                 have HbS : Hid (Below w11.heap.size w11 w12) := Lib.hid (((below_two w11 (.cells #[] 3) (.cells #[] 4)).drew).grown hg (by first | (simp; done) | (simp; omega)) (fun k hk => by cases hk; first | (simp; done) | (simp; omega)))
                 have HI4 := Lib.hid hv
                 have HB4 := Lib.hid (HBc.out.keep hg (fun k hk => rfl) (Nat.le_refl _) HPc.out)
                 have HP4 := Lib.hid (HPc.out.app HBc.out (Nat.le_refl _) hl)
                 clear hv hg hl)
              | (refine step_appL iOk (by rfl) (.tmp 121) (.tmp 123) (by rfl) w11.heap.size _ ([] : List Int) ks1 (by rfl) HId.out A1 n1 c1 (by rfl) Hk1.out.kl (by first | exact K1.out.ks.alloc (.cells #[] 3) | exact (K1.out.ks.alloc (.cells #[] 3)).alloc (.cells #[] 4) | exact (K1.out.ks.alloc (.cells #[] 4)).alloc (.cells #[] 3)) (by rw [HI1.out]; unfold maxLen; have := Hl.out; omega) (by rw [HI1.out]; have := Hl.out; omega) (by first | (simp; done) | (simp; omega)) ?_
                 intro A4 c4 w12 hv hg hl
                 rw [List.nil_append] at hv
                 rw [HI1.out] at hv hl ⊢
                 have HbS : Hid (Below w11.heap.size w11 w12) := Lib.hid (((below_two w11 (.cells #[] 4) (.cells #[] 3)).drew).grown hg (by first | (simp; done) | (simp; omega)) (fun k hk => by cases hk; first | (simp; done) | (simp; omega)))
                 have HI4 := Lib.hid hv
                 have HB4 := Lib.hid (HBd.out.keep hg (fun k hk => rfl) (Nat.le_refl _) HPd.out)
                 have HP4 := Lib.hid (HPd.out.app HBd.out (Nat.le_refl _) hl)
                 clear hv hg hl)
              | (refine step_appL iOk (by rfl) (.tmp 124) (.tmp 126) (by rfl) w11.heap.size _ ks1 ks2 (by rfl) HI4.out A2 n2 c2 (by rfl) Hk2.out.kl (by first | exact K2.out.ks.after HbS.out | exact (K2.out.ks.after HbS.out).alloc _) (by rw [HI2.out]; unfold maxLen; have := Hl.out; omega) (by rw [HI2.out]; have := Hl.out; omega) (by first | exact HbS.out.size | (have := HbS.out.size; simp; omega)) ?_
                 intro A7 c7 w13 hv hg hl
                 rw [HI2.out] at hv hl ⊢
                 have HbT : Hid (Below w11.heap.size w11 w13) := Lib.hid (HbS.out.grown hg (by first | exact HbS.out.size | (have := HbS.out.size; simp; omega)) (fun k hk => (HI4.out.lt k hk).1))
                 have HI7 := Lib.hid hv
                 have HB7 := Lib.hid (HB4.out.keep hg (fun k hk => rfl) (Nat.le_refl _) HP4.out)
                 have HP7 := Lib.hid (HP4.out.app HB4.out (Nat.le_refl _) hl)
                 clear hv hg hl HbS
                 have HbS := HbT
                 clear HbT)
              | (refine step_appL iOk (by rfl) (.tmp 124) (.tmp 126) (by rfl) w11.heap.size _ ks1 ks2 (by rfl) (HI4.out.alloc (.cells #[] 4)) A2 n2 c2 (by rfl) Hk2.out.kl (by first | exact K2.out.ks.after HbS.out | exact (K2.out.ks.after HbS.out).alloc _) (by rw [HI2.out]; unfold maxLen; have := Hl.out; omega) (by rw [HI2.out]; have := Hl.out; omega) (by first | exact HbS.out.size | (have := HbS.out.size; simp; omega)) ?_
                 intro A7 c7 w13 hv hg hl
                 rw [HI2.out] at hv hl ⊢
                 have HbT : Hid (Below w11.heap.size w11 w13) := Lib.hid ((HbS.out.alloc HbS.out.size (.cells #[] 4)).grown hg (by first | exact HbS.out.size | (have := HbS.out.size; simp; omega)) (fun k hk => (HI4.out.lt k hk).1))
                 have HI7 := Lib.hid hv
                 have hmd := OwnG.made (rd := rdB) (S := 1) w12 w11.heap.size 4 #[] 0 HbS.out.size (Nat.zero_le _) rfl
                 have hap : Apart (.slice (some ⟨w12.heap.size, 0, none⟩) 0 0) (.slice A4 n1 c4) := fun k hk hk' => by
                   have h1 := (HI4.out.lt k hk').2
                   injection hk with hk
                   have h2 : w12.heap.size = k := hk
                   omega
                 have HB7 := Lib.hid (hmd.keep hg (fun k hk => rfl) (Nat.le_refl _) hap)
                 have HP7 := Lib.hid (hap.app hmd (Nat.le_refl _) hl)
                 clear hmd hap
                 clear hv hg hl HbS
                 have HbS := HbT
                 clear HbT)
              | (refine step_appL iOk (by rfl) (.tmp 124) (.tmp 126) (by rfl) w11.heap.size _ ks1 ks2 (by rfl) HI4.out A2 n2 c2 (by rfl) Hk2.out.kl (by first | exact K2.out.ks.after HbS.out | exact (K2.out.ks.after HbS.out).alloc _) (by rw [HI2.out]; unfold maxLen; have := Hl.out; omega) (by rw [HI2.out]; have := Hl.out; omega) (by first | exact HbS.out.size | (have := HbS.out.size; simp; omega)) ?_
                 intro A7 c7 w13 hv hg hl
                 rw [HI2.out] at hv hl ⊢
                 have HbT : Hid (Below w11.heap.size w11 w13) := Lib.hid (HbS.out.grown hg (by first | exact HbS.out.size | (have := HbS.out.size; simp; omega)) (fun k hk => (HI4.out.lt k hk).1))
                 have HI7 := Lib.hid hv
                 clear hv hg hl HbS
                 have HbS := HbT
                 clear HbT)
              | (refine step_appL bOk (by rfl) (.tmp 128) (.tmp 130) (by rfl) w11.heap.size _ ([] : List Bool) bs1 (by rfl) HB7.out B1 m1 d1 (by rfl) Hk1.out.bl (by first | exact K1.out.bs.after HbS.out | exact (K1.out.bs.after HbS.out).alloc _) (by rw [HB1.out]; unfold maxLen; have := Hl.out; omega) (by rw [HB1.out]; have := Hl.out; omega) (by first | exact HbS.out.size | (have := HbS.out.size; simp; omega)) ?_
                 intro A8 c8 w14 hv hg hl
                 rw [List.nil_append] at hv
                 rw [HB1.out] at hv hl ⊢
                 have hap := HP7.out.symm
                 have HbT : Hid (Below w11.heap.size w11 w14) := Lib.hid (HbS.out.grown hg (by first | exact HbS.out.size | (have := HbS.out.size; simp; omega)) (fun k hk => (HB7.out.lt k hk).1))
                 have HB8 := Lib.hid hv
                 have HI8 := Lib.hid (HI7.out.keep hg (fun k hk => rfl) (Nat.le_refl _) hap)
                 have HP8 := Lib.hid (hap.app HI7.out (Nat.le_refl _) hl)
                 clear hv hg hl hap HbS
                 have HbS := HbT
                 clear HbT)
              | (refine step_appL bOk (by rfl) (.tmp 128) (.tmp 130) (by rfl) w11.heap.size _ ([] : List Bool) bs1 (by rfl) (OwnG.made (rd := rdB) (S := 1) w13 w11.heap.size 4 #[] 0 HbS.out.size (Nat.zero_le _) rfl) B1 m1 d1 (by rfl) Hk1.out.bl (by first | exact K1.out.bs.after HbS.out | exact (K1.out.bs.after HbS.out).alloc _) (by rw [HB1.out]; unfold maxLen; have := Hl.out; omega) (by rw [HB1.out]; have := Hl.out; omega) (by first | exact HbS.out.size | (have := HbS.out.size; simp; omega)) ?_
                 intro A8 c8 w14 hv hg hl
                 rw [List.nil_append] at hv
                 rw [HB1.out] at hv hl ⊢
                 have hap := (show Apart (.slice A7 (n1 + n2) c7) (.slice (some ⟨w13.heap.size, 0, none⟩) 0 0) from fun k hk hk' => by
                   have h1 := (HI7.out.lt k hk).2
                   injection hk' with hk'
                   have h2 : w13.heap.size = k := hk'
                   omega)
                 have HbT : Hid (Below w11.heap.size w11 w14) := Lib.hid ((HbS.out.alloc HbS.out.size (.cells #[] 4)).grown hg (by first | exact HbS.out.size | (have := HbS.out.size; simp; omega)) (fun k hk => ((OwnG.made (rd := rdB) (S := 1) w13 w11.heap.size 4 #[] 0 HbS.out.size (Nat.zero_le _) rfl).lt k hk).1))
                 have HB8 := Lib.hid hv
                 have HI8 := Lib.hid ((HI7.out.alloc (.cells #[] 4)).keep hg (fun k hk => rfl) (Nat.le_refl _) hap)
                 have HP8 := Lib.hid (hap.app (HI7.out.alloc (.cells #[] 4)) (Nat.le_refl _) hl)
                 clear hv hg hl hap HbS
                 have HbS := HbT
                 clear HbT)
              | (refine step_appL bOk (by rfl) (.tmp 131) (.tmp 133) (by rfl) w11.heap.size _ bs1 bs2 (by rfl) HB8.out B2 m2 d2 (by rfl) Hk2.out.bl (K2.out.bs.after HbS.out) (by rw [HB2.out]; unfold maxLen; have := Hl.out; omega) (by rw [HB2.out]; have := Hl.out; omega) HbS.out.size ?_
                 intro A9 c9 w15 hv hg hl
                 rw [HB2.out] at hv hl ⊢
                 have HbT : Hid (Below w11.heap.size w11 w15) := Lib.hid (HbS.out.grown hg HbS.out.size (fun k hk => (HB8.out.lt k hk).1))
                 have HB9 := Lib.hid hv
                 have HI9 := Lib.hid (HI8.out.keep hg (fun k hk => rfl) (Nat.le_refl _) HP8.out)
                 clear hv hg hl HbS
                 have HbS := HbT
                 clear HbT)
              | (go_at_call 17
                 obtain ⟨Ai, ci, ei, _, _, hsi⟩ := HI9.out.sl iOk.len
                 obtain ⟨Ab, cb, eb, _, _, hsb⟩ := HB9.out.sl bOk.len
                 injection ei with ei1 ei2 ei3
                 injection eb with eb1 eb2 eb3
                 refine (fits_c jA A7 A9 (j + q) jc (n1 + n2) c7 (m1 + m2) c9 (pxs ++ qxs) (ks1 ++ ks2) (bs1 ++ bs2) _ Hj11.out.len Hj11.out.max ((Hj11.out.after HbS.out).sl) (fun x hx => by rcases List.mem_append.1 hx with h | h; exact HX.out.sz x h; exact HY.out.sz x h) (by rw [List.length_append, HI2.out]) (by unfold maxLen; have := Hl.out; omega) (by rw [ei1]; exact hsi) (by rw [List.length_append, HB2.out]) (by unfold maxLen; have := Hl.out; omega) (by rw [eb1]; exact hsb)).mono ?_
                 clear ei1 ei2 ei3 eb1 eb2 eb3 hsi hsb
                 rintro en w16 ⟨rfl, hb16⟩
                 rw [Hf.out]
                 have HbT := Lib.hid (below_via HbS.out hb16)
                 clear hb16 HbS
                 have HbS := HbT
                 clear HbT))
          all_goals
            have HbF := Lib.hid (HW.out.trans ((below_via Hb11.out HbS.out).mono HW.out.size))
            clear HbS HS HIa HId HBc HBd HPc HPd K1 K2 Hf Hl
            go_wp2
            go_ret
            exact ⟨rfl, HbF.out⟩
end Go.Proofs.YtbhliihmipbfjaaDoor
