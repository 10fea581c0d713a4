/-
  The calls whose answers the document fixes, of layer 4: all of them answer so, in every world.
-/
import Derived.Test.YtbhliihmipbfjaaDoorTextR
import Derived.Test.YtbhliihmipbfjaaDoorSame4
import Derived.Test.YtbhliihmipbfjaaDoorSort
import Derived.Test.YtbhliihmipbfjaaDoorFits
import Derived.Test.YtbhliihmipbfjaaDoorPick
namespace Go.Proofs.YtbhliihmipbfjaaDoor
open Go Go.RowKit
set_option maxRecDepth 100000

theorem rint_c (n : Int) (w : World) : Calls Tryd.prog 21 #[.int .i64 n] w fun e w' => e = .returned (iv n).v ∧ Below w.heap.size w w' := by
  go_enter Tryd.func21, Tryd.ntmps21
  go_wp2
  exact bodyPost_ret (v := (iv n).v) (by simp [results, Tryd.results21, go_sem, iv]) rfl ⟨rfl, below_one _ _⟩


def r0 : List Val := [iv 1, nl]
theorem pick_a : pickR r0 [1, 0, 0] = some [nl, iv 1, iv 1] := by kernel_rfl
theorem pick_b : pickR r0 [2] = none := by kernel_rfl
theorem text_a : rowT r0 = [40, 49, 44, 32, 110, 117, 108, 108, 41] := by kernel_rfl
theorem fits_a : fitsR r0 [2, 3] [false, true] = true := by kernel_rfl
theorem fits_b : fitsR r0 [2, 3] [false, false] = false := by kernel_rfl
theorem may_a : mayR r0 = true := by kernel_rfl
theorem r0_z : ∀ x ∈ r0, x.s.size ≤ maxLen := by
  intro x hx
  simp [r0] at hx
  rcases hx with rfl | rfl <;> exact Nat.zero_le _
theorem r0_2 : ∀ x ∈ r0, x.s.size ≤ 2000 := by
  intro x hx
  simp [r0] at hx
  rcases hx with rfl | rfl <;> exact Nat.zero_le _
theorem r0_n : ∀ x ∈ r0, -9223372036854775808 ≤ x.n ∧ x.n ≤ 9223372036854775807 := by
  intro x hx
  simp [r0] at hx
  rcases hx with rfl | rfl
  · exact ⟨by decide, by decide⟩
  · exact ⟨by decide, by decide⟩
theorem sort_a : sortR [r0, []] = [[], r0] := (sortR_of (l := [r0, []]) (m := [[], r0]) (List.Perm.swap _ _ _) (by
  refine List.Pairwise.cons (fun a ha => ?_) (List.pairwise_singleton _ _)
  rw [List.mem_singleton] at ha
  subst ha
  kernel_rfl)).symm

set_option maxHeartbeats 4000000 in
theorem fixed_c (w : World) (hG : Gl w) : Calls Tryd.prog 8 #[] w fun e w' => e = .returned (.bool true) ∧ Below w.heap.size w w' := by
  have HG := Lib.hid hG
  clear hG
  go_enter Tryd.func8, Tryd.ntmps8
  go_wp2_with fail
  refine (rint_c 1 _).mono ?_
  rintro en w1 ⟨rfl, hb1⟩
  have Hb1 := Lib.hid hb1
  clear hb1
  go_wp2_with fail
  refine (pick_c (some ⟨w1.heap.size, 0, none⟩) (some ⟨w1.heap.size + 1, 0, none⟩) 2 2 3 3 r0 [1, 0, 0] _ rfl (by unfold maxLen; omega) ((SlG.newAt rfl vOk.len r0 rfl).sl.after (below_one _ _)) rfl (by omega) (SlG.newAt (by simp) iOk.len [1, 0, 0] rfl)).mono ?_
  rintro en w2 ⟨⟨pA, pn, pc, pxs⟩, ok, rfl, hb2, hp, hok⟩
  unfold pickOk at hok
  rw [pick_a] at hok
  simp only [] at hok
  obtain ⟨rfl, rfl⟩ := hok
  have Hr2 : Hid (Sl w2 (some ⟨w1.heap.size, 0, none⟩) r0) := ((SlG.newAt rfl vOk.len r0 rfl).sl.after (below_one _ _)).after hb2
  have Hb2 := Lib.hid (below_via (below_al (below_al Hb1.out _) _) hb2)
  have Hp2 := Lib.hid hp
  clear hb2 hp
  go_wp2_with fail
  refine (pick_c (some ⟨w1.heap.size, 0, none⟩) (some ⟨w2.heap.size, 0, none⟩) 2 2 1 1 r0 [2] _ rfl (by unfold maxLen; omega) (Hr2.out.after (below_one _ _)) rfl (by omega) (SlG.newAt rfl iOk.len [2] rfl)).mono ?_
  rintro en w3 ⟨⟨qA, qn, qc, qxs⟩, ok, rfl, hb3, _, hok⟩
  unfold pickOk at hok
  rw [pick_b] at hok
  simp only [] at hok
  obtain ⟨rfl, rfl⟩ := hok
  have Hr3 := Lib.hid ((Hr2.out.after (below_one _ _)).after hb3)
  have Hp3 := Lib.hid ((Hp2.out.after (below_one _ _)).after hb3)
  have Hb3 := Lib.hid (below_via (below_al Hb2.out _) hb3)
  clear hb3 Hr2 Hp2 Hb2
  go_wp2_with fail
  refine (rtext_c (some ⟨w1.heap.size, 0, none⟩) 2 2 r0 _ rfl (by omega) Hr3.out r0_n r0_2 (HG.out.after Hb3.out)).mono ?_
  rintro en w4 ⟨rfl, hb4⟩
  rw [text_a]
  have Hr4 := Lib.hid (Hr3.out.after hb4)
  have Hp4 := Lib.hid (Hp3.out.after hb4)
  have Hb4 := Lib.hid (below_via Hb3.out hb4)
  clear hb4 Hr3 Hp3 Hb3
  go_wp2_with fail
  refine (rint_c 1 _).mono ?_
  rintro en w5 ⟨rfl, hb5⟩
  have Hr5 := Lib.hid (Hr4.out.after hb5)
  have Hp5 := Lib.hid (Hp4.out.after hb5)
  have Hb5 := Lib.hid (below_via Hb4.out hb5)
  clear hb5 Hr4 Hp4 Hb4
  go_wp2_with fail
  refine (rint_c 1 _).mono ?_
  rintro en w6 ⟨rfl, hb6⟩
  have Hr6 := Lib.hid (Hr5.out.after hb6)
  have Hp6 := Lib.hid (Hp5.out.after hb6)
  have Hb6 := Lib.hid (below_via Hb5.out hb6)
  clear hb6 Hr5 Hp5 Hb5
  go_wp2_with fail
  refine (same_c pA (some ⟨w6.heap.size, 0, none⟩) pn 3 pc 3 [nl, iv 1, iv 1] [nl, iv 1, iv 1] _ Hp6.out.len rfl Hp6.out.max (by unfold maxLen; omega) (Hp6.out.after (below_one _ _)).sl (SlG.newAt rfl vOk.len [nl, iv 1, iv 1] rfl).sl).mono ?_
  rintro en w7 ⟨rfl, hb7⟩
  rw [cmpL_same]
  have Hr7 := Lib.hid ((Hr6.out.after (below_one _ _)).after hb7)
  have Hb7 := Lib.hid (below_via (below_al Hb6.out _) hb7)
  clear hb7 Hr6 Hp6 Hb6
  go_wp2_with fail
  refine (fits_c (some ⟨w1.heap.size, 0, none⟩) (some ⟨w7.heap.size, 0, none⟩) (some ⟨w7.heap.size + 1, 0, none⟩) 2 2 2 2 2 2 r0 [2, 3] [false, true] _ rfl (by unfold maxLen; omega) ((Hr7.out.after (below_one _ _)).after (below_one _ _)) r0_z rfl (by unfold maxLen; omega) ((SlG.newAt rfl iOk.len [2, 3] rfl).after (below_one _ _)) rfl (by unfold maxLen; omega) (SlG.newAt (by simp) bOk.len [false, true] rfl)).mono ?_
  rintro en w8 ⟨rfl, hb8⟩
  rw [fits_a]
  have Hr8 := Lib.hid (((Hr7.out.after (below_one _ _)).after (below_one _ _)).after hb8)
  have Hb8 := Lib.hid (below_via (below_al (below_al Hb7.out _) _) hb8)
  clear hb8 Hr7 Hb7
  go_wp2_with fail
  refine (fits_c (some ⟨w1.heap.size, 0, none⟩) (some ⟨w8.heap.size, 0, none⟩) (some ⟨w8.heap.size + 1, 0, none⟩) 2 2 2 2 2 2 r0 [2, 3] [false, false] _ rfl (by unfold maxLen; omega) ((Hr8.out.after (below_one _ _)).after (below_one _ _)) r0_z rfl (by unfold maxLen; omega) ((SlG.newAt rfl iOk.len [2, 3] rfl).after (below_one _ _)) rfl (by unfold maxLen; omega) (SlG.newAt (by simp) bOk.len [false, false] rfl)).mono ?_
  rintro en w9 ⟨rfl, hb9⟩
  rw [fits_b]
  have Hr9 := Lib.hid (((Hr8.out.after (below_one _ _)).after (below_one _ _)).after hb9)
  have Hb9 := Lib.hid (below_via (below_al (below_al Hb8.out _) _) hb9)
  clear hb9 Hr8 Hb8
  go_wp2_with fail
  refine (mayRow_c (some ⟨w1.heap.size, 0, none⟩) 2 2 r0 _ rfl (by unfold maxLen; omega) Hr9.out r0_z).mono ?_
  rintro en w10 ⟨rfl, hb10⟩
  rw [may_a]
  have Hr10 := Lib.hid (Hr9.out.after hb10)
  have Hb10 := Lib.hid (below_via Hb9.out hb10)
  clear hb10 Hr9 Hb9
  have hr : ∀ W, Sl W (some ⟨w1.heap.size, 0, none⟩) r0 → Hd.In W ⟨some ⟨w1.heap.size, 0, none⟩, 2, 2, r0⟩ := fun W h => ⟨rfl, by show 2 ≤ maxLen; unfold maxLen; omega, h⟩
  have Hr := Lib.hid hr
  clear hr
  go_wp2_with fail
  refine (join_c (some ⟨w10.heap.size, 0, none⟩) 2 2 [⟨some ⟨w1.heap.size, 0, none⟩, 2, 2, r0⟩, ⟨some ⟨w1.heap.size, 0, none⟩, 2, 2, r0⟩] _ rfl (by unfold maxLen; omega) (SlG.newAt rfl hOk.len [⟨some ⟨w1.heap.size, 0, none⟩, 2, 2, r0⟩, ⟨some ⟨w1.heap.size, 0, none⟩, 2, 2, r0⟩] rfl) (fun h hh => by
    simp only [List.mem_cons, List.not_mem_nil, or_false, or_self] at hh
    subst hh
    exact Hr.out _ (Hr10.out.after (below_one _ _))) (by show 4 ≤ 100000; omega)).mono ?_
  rintro en w11 ⟨v, rfl, hb11, hv⟩
  obtain ⟨A, c, rfl⟩ := hv.isSlice
  have e4 : (joinR [⟨some ⟨w1.heap.size, 0, none⟩, 2, 2, r0⟩, ⟨some ⟨w1.heap.size, 0, none⟩, 2, 2, r0⟩]).length = 4 := rfl
  rw [e4]
  have Hr11 := Lib.hid ((Hr10.out.after (below_one _ _)).after hb11)
  have Hb11 := Lib.hid (below_via (below_al Hb10.out _) hb11)
  clear hb11 hv e4 Hr10 Hb10
  go_wp2_with fail
  refine (sort_c (some ⟨w11.heap.size + 1, 0, none⟩) 2 2 [⟨some ⟨w1.heap.size, 0, none⟩, 2, 2, r0⟩, ⟨some ⟨w11.heap.size, 0, none⟩, 0, 0, []⟩] _ rfl (by omega) (SlG.newAt (by simp) hOk.len [⟨some ⟨w1.heap.size, 0, none⟩, 2, 2, r0⟩, ⟨some ⟨w11.heap.size, 0, none⟩, 0, 0, []⟩] rfl) (fun h hh => by
    simp only [List.mem_cons, List.not_mem_nil, or_false] at hh
    rcases hh with rfl | rfl
    · exact ⟨Hr.out _ ((Hr11.out.after (below_one _ _)).after (below_one _ _)), by show 2 ≤ 100000; omega⟩
    · exact ⟨⟨rfl, Nat.zero_le _, .inl rfl⟩, Nat.zero_le _⟩)).mono ?_
  rintro en w12 ⟨g, ks, rfl, hb12, _, hks, hki, hkm, hkl⟩
  have e5 : ks.map (·.xs) = [[], r0] := hkm.trans sort_a
  have Hr12 := Lib.hid (((Hr11.out.after (below_one _ _)).after (below_one _ _)).after hb12)
  have Hb12 := Lib.hid (below_via (below_al (below_al Hb11.out _) _) hb12)
  have Hks := Lib.hid hks
  have Hki := Lib.hid hki
  have E5 := Lib.hid e5
  have Hkl := Lib.hid hkl
  clear hb12 hks hki hkm hkl e5 Hr11 Hb11
  go_wp2_with fail
  refine (sameRows_c (some ⟨g, 0, none⟩) (some ⟨w12.heap.size + 1, 0, none⟩) 2 2 2 2 ks [⟨some ⟨w12.heap.size, 0, none⟩, 0, 0, []⟩, ⟨some ⟨w1.heap.size, 0, none⟩, 2, 2, r0⟩] _ Hkl.out rfl (by unfold maxLen; omega) (by unfold maxLen; omega) ((Hks.out.after (below_one _ _)).after (below_one _ _)) (fun h hh => ((Hki.out h hh).after (below_one _ _)).after (below_one _ _)) (SlG.newAt (by simp) hOk.len [⟨some ⟨w12.heap.size, 0, none⟩, 0, 0, []⟩, ⟨some ⟨w1.heap.size, 0, none⟩, 2, 2, r0⟩] rfl) (fun h hh => by
    simp only [List.mem_cons, List.not_mem_nil, or_false] at hh
    rcases hh with rfl | rfl
    · exact ⟨rfl, Nat.zero_le _, .inl rfl⟩
    · exact Hr.out _ ((Hr12.out.after (below_one _ _)).after (below_one _ _)))).mono ?_
  rintro en w13 ⟨rfl, hb13⟩
  have e6 : sameR (ks.map (·.xs)) ([(⟨some ⟨w12.heap.size, 0, none⟩, 0, 0, []⟩ : Hd), ⟨some ⟨w1.heap.size, 0, none⟩, 2, 2, r0⟩].map (·.xs)) = true := by
    rw [E5.out]
    exact sameR_self _
  rw [e6]
  have Hb13 := Lib.hid (below_via (below_al (below_al Hb12.out _) _) hb13)
  clear hb13 e6 Hr12 Hb12 Hks Hki E5 Hkl Hr
  go_wp2
  go_ret
  exact ⟨rfl, Hb13.out⟩
end Go.Proofs.YtbhliihmipbfjaaDoor
