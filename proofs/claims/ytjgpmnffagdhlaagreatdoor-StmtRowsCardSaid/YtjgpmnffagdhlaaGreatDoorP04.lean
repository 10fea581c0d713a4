/-
  Part 4 of 7 of what the proof leans on: each part below says what it proves, and of what; no condition besides.
-/
import Derived.Test.YtjgpmnffagdhlaaGreatDoorP03
import Derived.Deep.RegionHeld2
import Derived.Deep.RegionHeld3
import Derived.ChangeKeysEq
set_option linter.unusedVariables false
set_option linter.unusedSimpArgs false
namespace Go.Proofs.YtjgpmnffagdhlaaGreatDoor
open Go Go.RowKit
set_option maxRecDepth 100000
theorem ba_back (s : ByteArray) : ba s.data.toList = s := by
  cases s
  simp [ba]
theorem size_zero {s : ByteArray} (h : s.size = 0) : s = emp := by
  have : s.data = #[] := Array.eq_empty_of_size_eq_zero h
  cases s
  simp at this
  rw [this]
theorem size_ne {s : ByteArray} (h : ¬ s.size = 0) : s.toList.isEmpty = false := by
  rw [ByteArray.toList_eq]
  cases e : s.data.toList with
  | nil => exact absurd (show s.data.size = 0 by rw [← Array.length_toList, e]; rfl) h
  | cons a r => rfl
theorem size_eq {s : ByteArray} (h : s.size = 0) : s.toList.isEmpty = true := by
  rw [ByteArray.toList_eq, size_zero h]
  rfl
/-- The words of a column. -/
def refW (rf : ByteArray) (ac : Int) : Option (List (List UInt8)) := if rf.size = 0 then some [] else catW (some [w_ref, rf.data.toList]) (chW ac acWs)
def uniW (uni : Bool) (rf : ByteArray) (ac : Int) : Option (List (List UInt8)) := catW (some (if uni then [w_unique] else [])) (refW rf ac)
def nulW (nul uni : Bool) (rf : ByteArray) (ac : Int) : Option (List (List UInt8)) := catW (some (if nul then [w_null] else [])) (uniW uni rf ac)
def clW (c : Cl) : Option (List (List UInt8)) := catW (some [c.name.data.toList]) (catW (chW (IntKind.i64.wrap (c.kind - 1)) kdWs) (nulW c.nul c.uni c.ref c.act))
set_option maxHeartbeats 16000000 in
theorem column_w (B b : Nat) (l : List UInt8) (c : Cl) (w : World) (hw : Wr w B b l) (hl : l.length ≤ 20000) (hn : c.name.size ≤ 4611686018427387904) (hr : c.ref.size ≤ 4611686018427387904) :
    Calls Tryz.prog 121 #[.pointer (some ⟨b, 0, none⟩), c.w] w (WS B b w ((clW c).bind (addW l))) := by
  obtain ⟨S, hS⟩ : ∃ S, WS B b w ((clW c).bind (addW l)) = S := ⟨_, rfl⟩
  rw [hS]
  unfold clW at hS
  obtain ⟨nm, kd, nul, uni, rf, ac⟩ := c
  simp only at hn hr hS
  have hwl := hw.lt
  have hwB := hw.le
  obtain ⟨w0, hw0⟩ : ∃ w0, w.alloc (.cells #[.string nm, .int .i64 kd, .bool nul, .bool uni, .string rf, .int .i64 ac] 64) = w0 := ⟨_, rfl⟩
  have hne : w.heap.size ≠ b := by omega
  have hsz0 : w0.heap.size = w.heap.size + 1 := by rw [← hw0]; simp
  have HW0 : Hid (Wr w0 B b l) := Lib.hid (by rw [← hw0]; exact hw.alloc _)
  have HK0 : Hid (Wk B b w w0) := Lib.hid (by rw [← hw0]; exact (Wk.refl B b w).alloc hwB _)
  have HB0 : Hid (Bk w0 w.heap.size #[.string nm, .int .i64 kd, .bool nul, .bool uni, .string rf, .int .i64 ac] 64) := Lib.hid (by rw [← hw0]; exact Bk.new w _ _)
  have HE0 := Lib.hid hS
  have HL0 := Lib.hid hl
  have hb0 := HW0.out.lt
  have hB0 := HW0.out.le
  have hC0 := HB0.out.lt
  have Hn := Lib.hid hn
  have Hr := Lib.hid hr
  clear hS hw hl hn hr
  go_enter Tryz.func121, Tryz.ntmps121
  have d00 : w0.cell? ⟨w.heap.size, 0, none⟩ = some (.string nm) := HB0.out.cell 0
  go_wp2_with fail
  rw [← hsz0]
  refine (add_c B b w0.heap.size l [nm.data.toList] 1 _ (HW0.out.alloc _) HL0.out (Ws.new w0 b [nm.data.toList] _ (by rw [List.map_cons, List.map_nil, ba_back]) hb0 _ rfl) rfl (by omega) (by intro s hs; simp only [List.mem_singleton] at hs; subst hs; exact Hn.out)).mono ?_
  rintro e w1 hs
  rcases WS.yes (Wk.refl B b _) hs with ⟨rfl, h1, h2⟩ | ⟨rfl, l1, h1, h2, h3, h4⟩
  · refine ⟨rfl, ?_⟩
    rw [← HE0.out, catW_add, show (some [nm.data.toList]).bind (addW l) = none from h1]
    exact ⟨rfl, (HK0.out.alloc hB0 _).trans h2⟩
  · have he := HE0.out
    rw [catW_add, show (some [nm.data.toList]).bind (addW l) = some l1 from h1] at he
    have HE1 := Lib.hid (show WS B b w (Option.bind (catW (chW (IntKind.i64.wrap (kd - 1)) kdWs) (nulW nul uni rf ac)) (addW l1)) = S from he)
    clear he
    have HW1 := Lib.hid h2
    have HL1 := Lib.hid h3
    have HK1 := Lib.hid ((HK0.out.alloc hB0 _).trans h4)
    have HB1 := Lib.hid (h4.bk (HB0.out.alloc _) hne (by decide))
    have hb1 := h2.lt
    have hB1 := h2.le
    have hC1 := HB1.out.lt
    have d01 : w1.cell? ⟨w.heap.size, 0, none⟩ = some (.string nm) := HB1.out.cell 0
    have d11 : w1.cell? ⟨w.heap.size, 1, none⟩ = some (.int .i64 kd) := HB1.out.cell 1
    have d21 : w1.cell? ⟨w.heap.size, 2, none⟩ = some (.bool nul) := HB1.out.cell 2
    have d31 : w1.cell? ⟨w.heap.size, 3, none⟩ = some (.bool uni) := HB1.out.cell 3
    have d41 : w1.cell? ⟨w.heap.size, 4, none⟩ = some (.string rf) := HB1.out.cell 4
    have d51 : w1.cell? ⟨w.heap.size, 5, none⟩ = some (.int .i64 ac) := HB1.out.cell 5
    clear h1 h2 h3 h4 hs
    clear hw0 hsz0 HB0 HE0 HW0 HL0 HK0
    go_wp2_with fail
    go_region_law (first
      | (refine step_callO rfl 165 #[] (by kernel_rfl) (.slice (some ⟨w1.heap.size, 0, none⟩) 3 3) (fun w' => w' = wdN w1.drew kdWs) ((kinds_c _).mono ?_) ?_
         · rintro e w5 ⟨rfl, rfl⟩
           exact .inl ⟨by first | rfl | simp, rfl⟩
         rintro w5 rfl)
      | (refine step_callO rfl 82 #[.pointer (some ⟨b, 0, none⟩), .int .i64 (IntKind.i64.wrap (kd - 1)), .slice (some ⟨w1.heap.size, 0, none⟩) 3 3] (by first | kernel_rfl | rfl) (.tuple #[]) (fun w' => ∃ q, (chW (IntKind.i64.wrap (kd - 1)) kdWs).bind (addW l1) = some q ∧ Wr w' B b q ∧ q.length ≤ 20000 ∧ Wk B b w w' ∧ Bk w' w.heap.size #[.string nm, .int .i64 kd, .bool nul, .bool uni, .string rf, .int .i64 ac] 64) ((choice_w B b w1.heap.size l1 (IntKind.i64.wrap (kd - 1)) kdWs 3 (wdN w1.drew kdWs) (HW1.out.drew.alloc _) HL1.out (Ws.new w1.drew b kdWs _ rfl hb1 _ (by first | rfl | simp)) rfl (by omega) (by intro s hs; simp [kdWs] at hs; rcases hs with rfl | rfl | rfl <;> decide)).mono ?_) ?_
         · intro e w6 hs
           have hk : Wk B b w (wdN w1.drew kdWs) := HK1.out.drew.alloc hB1 _
           have hbk : Bk (wdN w1.drew kdWs) w.heap.size #[.string nm, .int .i64 kd, .bool nul, .bool uni, .string rf, .int .i64 ac] 64 := HB1.out.drew.alloc _
           rcases WS.yes (Wk.refl B b _) hs with ⟨rfl, h1, h2⟩ | ⟨rfl, q, h1, h2, h3, h4⟩
           · refine .inr ⟨_, rfl, rfl, ?_⟩
             rw [← HE1.out, catW_add, h1]
             exact ⟨rfl, hk.trans h2⟩
           · exact .inl ⟨rfl, q, h1, h2, h3, hk.trans h4, h4.bk hbk hne (by decide)⟩
         rintro w2 ⟨l2, h1, h2, h3, h4, hbk⟩
         have H12 := Lib.hid h1
         have HW2 := Lib.hid h2
         have HL2 := Lib.hid h3
         have HK2 := Lib.hid h4
         have HB2 := Lib.hid hbk
         have hb2 := h2.lt
         have hB2 := h2.le
         have hC2 := hbk.lt
         have d02 : w2.cell? ⟨w.heap.size, 0, none⟩ = some (.string nm) := HB2.out.cell 0
         have d12 : w2.cell? ⟨w.heap.size, 1, none⟩ = some (.int .i64 kd) := HB2.out.cell 1
         have d22 : w2.cell? ⟨w.heap.size, 2, none⟩ = some (.bool nul) := HB2.out.cell 2
         have d32 : w2.cell? ⟨w.heap.size, 3, none⟩ = some (.bool uni) := HB2.out.cell 3
         have d42 : w2.cell? ⟨w.heap.size, 4, none⟩ = some (.string rf) := HB2.out.cell 4
         have d52 : w2.cell? ⟨w.heap.size, 5, none⟩ = some (.int .i64 ac) := HB2.out.cell 5
         clear h1 h2 h3 h4 hbk))
    all_goals
      have he := HE1.out
      rw [catW_add, H12.out] at he
      have HE2 := Lib.hid (show WS B b w (Option.bind (nulW nul uni rf ac) (addW l2)) = S from he)
      clear he H12
      cases nul
      · have he := HE2.out
        unfold nulW at he
        rw [catW_add] at he
        clear HE2
        have HE2 := Lib.hid (show WS B b w (Option.bind (uniW uni rf ac) (addW l2)) = S from he)
        clear he
        cases uni
        · have he := HE2.out
          unfold uniW at he
          rw [catW_add] at he
          clear HE2
          have HE2 := Lib.hid (show WS B b w (Option.bind (refW rf ac) (addW l2)) = S from he)
          clear he
          by_cases hrf : rf.size = 0
          · have he := HE2.out
            unfold refW at he
            rw [if_pos hrf] at he
            clear HE2
            have HE2 := Lib.hid (show WS B b w (some l2) = S from he)
            have hrne := size_eq hrf
            clear he hrf
            go_wp2
            go_end0
            rw [← HE2.out]
            exact ⟨rfl, HW2.out, HL2.out, HK2.out⟩
          · have he := HE2.out
            unfold refW at he
            rw [if_neg hrf] at he
            clear HE2
            have HE2 := Lib.hid he
            have hrne := size_ne hrf
            clear he
            go_wp2_with fail
            refine (add_c B b w2.heap.size l2 [w_ref, rf.data.toList] 2 _ (HW2.out.alloc _) HL2.out (Ws.new w2 b [w_ref, rf.data.toList] _ (by rw [List.map_cons, List.map_cons, List.map_nil, ba_back]; rfl) hb2 _ rfl) rfl (by omega) (by intro s hs; simp only [List.mem_cons, List.not_mem_nil, or_false] at hs; rcases hs with rfl | rfl; exact (by decide); exact Hr.out)).mono ?_
            rintro e w3 hs
            rcases WS.yes (Wk.refl B b _) hs with ⟨rfl, h1, h2⟩ | ⟨rfl, l3, h1, h2, h3, h4⟩
            · refine ⟨rfl, ?_⟩
              rw [← HE2.out, catW_add, show (some [w_ref, rf.data.toList]).bind (addW l2) = none from h1]
              exact ⟨rfl, (HK2.out.alloc hB2 _).trans h2⟩
            · have he := HE2.out
              rw [catW_add, show (some [w_ref, rf.data.toList]).bind (addW l2) = some l3 from h1] at he
              have HE3 := Lib.hid (show WS B b w (Option.bind (chW ac acWs) (addW l3)) = S from he)
              clear he
              have HW3 := Lib.hid h2
              have HL3 := Lib.hid h3
              have HK3 := Lib.hid ((HK2.out.alloc hB2 _).trans h4)
              have HB3 := Lib.hid (h4.bk (HB2.out.alloc _) hne (by decide))
              have hb3 := h2.lt
              have hB3 := h2.le
              have hC3 := HB3.out.lt
              have d03 : w3.cell? ⟨w.heap.size, 0, none⟩ = some (.string nm) := HB3.out.cell 0
              have d13 : w3.cell? ⟨w.heap.size, 1, none⟩ = some (.int .i64 kd) := HB3.out.cell 1
              have d23 : w3.cell? ⟨w.heap.size, 2, none⟩ = some (.bool false) := HB3.out.cell 2
              have d33 : w3.cell? ⟨w.heap.size, 3, none⟩ = some (.bool false) := HB3.out.cell 3
              have d43 : w3.cell? ⟨w.heap.size, 4, none⟩ = some (.string rf) := HB3.out.cell 4
              have d53 : w3.cell? ⟨w.heap.size, 5, none⟩ = some (.int .i64 ac) := HB3.out.cell 5
              clear h1 h2 h3 h4 hs
              go_wp2_with fail
              go_region_law (first
                | (refine step_callO rfl 166 #[] (by kernel_rfl) (.slice (some ⟨w3.heap.size, 0, none⟩) 3 3) (fun w' => w' = wdN w3.drew acWs) ((acts_c _).mono ?_) ?_
                   · rintro e w5 ⟨rfl, rfl⟩
                     exact .inl ⟨by first | rfl | simp, rfl⟩
                   rintro w5 rfl)
                | (refine step_callO rfl 82 #[.pointer (some ⟨b, 0, none⟩), .int .i64 ac, .slice (some ⟨w3.heap.size, 0, none⟩) 3 3] (by first | kernel_rfl | rfl) (.tuple #[]) (fun w' => ∃ q, (chW ac acWs).bind (addW l3) = some q ∧ Wr w' B b q ∧ q.length ≤ 20000 ∧ Wk B b w w' ∧ Bk w' w.heap.size #[.string nm, .int .i64 kd, .bool false, .bool false, .string rf, .int .i64 ac] 64) ((choice_w B b w3.heap.size l3 ac acWs 3 (wdN w3.drew acWs) (HW3.out.drew.alloc _) HL3.out (Ws.new w3.drew b acWs _ rfl hb3 _ (by first | rfl | simp)) rfl (by omega) (by intro s hs; simp [acWs] at hs; rcases hs with rfl | rfl | rfl <;> decide)).mono ?_) ?_
                   · intro e w6 hs
                     have hk : Wk B b w (wdN w3.drew acWs) := HK3.out.drew.alloc hB3 _
                     have hbk : Bk (wdN w3.drew acWs) w.heap.size #[.string nm, .int .i64 kd, .bool false, .bool false, .string rf, .int .i64 ac] 64 := HB3.out.drew.alloc _
                     rcases WS.yes (Wk.refl B b _) hs with ⟨rfl, h1, h2⟩ | ⟨rfl, q, h1, h2, h3, h4⟩
                     · refine .inr ⟨_, rfl, rfl, ?_⟩
                       rw [← HE3.out, h1]
                       exact ⟨rfl, hk.trans h2⟩
                     · exact .inl ⟨rfl, q, h1, h2, h3, hk.trans h4, h4.bk hbk hne (by decide)⟩
                   rintro w4 ⟨l4, h1, h2, h3, h4, hbk⟩
                   have H14 := Lib.hid h1
                   have HW4 := Lib.hid h2
                   have HL4 := Lib.hid h3
                   have HK4 := Lib.hid h4
                   have HB4 := Lib.hid hbk
                   have hb4 := h2.lt
                   have hB4 := h2.le
                   have hC4 := hbk.lt
                   clear h1 h2 h3 h4 hbk))
              all_goals
                have he := HE3.out
                rw [H14.out] at he
                have HE4 := Lib.hid he
                clear he H14
                go_wp2
                go_end0
                rw [← HE4.out]
                exact ⟨rfl, HW4.out, HL4.out, HK4.out⟩
        · have he := HE2.out
          unfold uniW at he
          clear HE2
          have HE2 := Lib.hid (show WS B b w (Option.bind (catW (some [w_unique]) (refW rf ac)) (addW l2)) = S from he)
          clear he
          go_wp2_with fail
          refine (add_c B b w2.heap.size l2 [w_unique] 1 _ (HW2.out.alloc _) HL2.out (Ws.new w2 b [w_unique] _ (rfl) hb2 _ rfl) rfl (by omega) (by intro s hs; simp only [List.mem_singleton] at hs; subst hs; decide)).mono ?_
          rintro e w3 hs
          rcases WS.yes (Wk.refl B b _) hs with ⟨rfl, h1, h2⟩ | ⟨rfl, l3, h1, h2, h3, h4⟩
          · refine ⟨rfl, ?_⟩
            rw [← HE2.out, catW_add, show (some [w_unique]).bind (addW l2) = none from h1]
            exact ⟨rfl, (HK2.out.alloc hB2 _).trans h2⟩
          · have he := HE2.out
            rw [catW_add, show (some [w_unique]).bind (addW l2) = some l3 from h1] at he
            have HE3 := Lib.hid (show WS B b w (Option.bind (refW rf ac) (addW l3)) = S from he)
            clear he
            have HW3 := Lib.hid h2
            have HL3 := Lib.hid h3
            have HK3 := Lib.hid ((HK2.out.alloc hB2 _).trans h4)
            have HB3 := Lib.hid (h4.bk (HB2.out.alloc _) hne (by decide))
            have hb3 := h2.lt
            have hB3 := h2.le
            have hC3 := HB3.out.lt
            have d03 : w3.cell? ⟨w.heap.size, 0, none⟩ = some (.string nm) := HB3.out.cell 0
            have d13 : w3.cell? ⟨w.heap.size, 1, none⟩ = some (.int .i64 kd) := HB3.out.cell 1
            have d23 : w3.cell? ⟨w.heap.size, 2, none⟩ = some (.bool false) := HB3.out.cell 2
            have d33 : w3.cell? ⟨w.heap.size, 3, none⟩ = some (.bool true) := HB3.out.cell 3
            have d43 : w3.cell? ⟨w.heap.size, 4, none⟩ = some (.string rf) := HB3.out.cell 4
            have d53 : w3.cell? ⟨w.heap.size, 5, none⟩ = some (.int .i64 ac) := HB3.out.cell 5
            clear h1 h2 h3 h4 hs
            by_cases hrf : rf.size = 0
            · have he := HE3.out
              unfold refW at he
              rw [if_pos hrf] at he
              clear HE3
              have HE3 := Lib.hid (show WS B b w (some l3) = S from he)
              have hrne := size_eq hrf
              clear he hrf
              go_wp2
              go_end0
              rw [← HE3.out]
              exact ⟨rfl, HW3.out, HL3.out, HK3.out⟩
            · have he := HE3.out
              unfold refW at he
              rw [if_neg hrf] at he
              clear HE3
              have HE3 := Lib.hid he
              have hrne := size_ne hrf
              clear he
              go_wp2_with fail
              refine (add_c B b w3.heap.size l3 [w_ref, rf.data.toList] 2 _ (HW3.out.alloc _) HL3.out (Ws.new w3 b [w_ref, rf.data.toList] _ (by rw [List.map_cons, List.map_cons, List.map_nil, ba_back]; rfl) hb3 _ rfl) rfl (by omega) (by intro s hs; simp only [List.mem_cons, List.not_mem_nil, or_false] at hs; rcases hs with rfl | rfl; exact (by decide); exact Hr.out)).mono ?_
              rintro e w4 hs
              rcases WS.yes (Wk.refl B b _) hs with ⟨rfl, h1, h2⟩ | ⟨rfl, l4, h1, h2, h3, h4⟩
              · refine ⟨rfl, ?_⟩
                rw [← HE3.out, catW_add, show (some [w_ref, rf.data.toList]).bind (addW l3) = none from h1]
                exact ⟨rfl, (HK3.out.alloc hB3 _).trans h2⟩
              · have he := HE3.out
                rw [catW_add, show (some [w_ref, rf.data.toList]).bind (addW l3) = some l4 from h1] at he
                have HE4 := Lib.hid (show WS B b w (Option.bind (chW ac acWs) (addW l4)) = S from he)
                clear he
                have HW4 := Lib.hid h2
                have HL4 := Lib.hid h3
                have HK4 := Lib.hid ((HK3.out.alloc hB3 _).trans h4)
                have HB4 := Lib.hid (h4.bk (HB3.out.alloc _) hne (by decide))
                have hb4 := h2.lt
                have hB4 := h2.le
                have hC4 := HB4.out.lt
                have d04 : w4.cell? ⟨w.heap.size, 0, none⟩ = some (.string nm) := HB4.out.cell 0
                have d14 : w4.cell? ⟨w.heap.size, 1, none⟩ = some (.int .i64 kd) := HB4.out.cell 1
                have d24 : w4.cell? ⟨w.heap.size, 2, none⟩ = some (.bool false) := HB4.out.cell 2
                have d34 : w4.cell? ⟨w.heap.size, 3, none⟩ = some (.bool true) := HB4.out.cell 3
                have d44 : w4.cell? ⟨w.heap.size, 4, none⟩ = some (.string rf) := HB4.out.cell 4
                have d54 : w4.cell? ⟨w.heap.size, 5, none⟩ = some (.int .i64 ac) := HB4.out.cell 5
                clear h1 h2 h3 h4 hs
                go_wp2_with fail
                go_region_law (first
                  | (refine step_callO rfl 166 #[] (by kernel_rfl) (.slice (some ⟨w4.heap.size, 0, none⟩) 3 3) (fun w' => w' = wdN w4.drew acWs) ((acts_c _).mono ?_) ?_
                     · rintro e w5 ⟨rfl, rfl⟩
                       exact .inl ⟨by first | rfl | simp, rfl⟩
                     rintro w5 rfl)
                  | (refine step_callO rfl 82 #[.pointer (some ⟨b, 0, none⟩), .int .i64 ac, .slice (some ⟨w4.heap.size, 0, none⟩) 3 3] (by first | kernel_rfl | rfl) (.tuple #[]) (fun w' => ∃ q, (chW ac acWs).bind (addW l4) = some q ∧ Wr w' B b q ∧ q.length ≤ 20000 ∧ Wk B b w w' ∧ Bk w' w.heap.size #[.string nm, .int .i64 kd, .bool false, .bool true, .string rf, .int .i64 ac] 64) ((choice_w B b w4.heap.size l4 ac acWs 3 (wdN w4.drew acWs) (HW4.out.drew.alloc _) HL4.out (Ws.new w4.drew b acWs _ rfl hb4 _ (by first | rfl | simp)) rfl (by omega) (by intro s hs; simp [acWs] at hs; rcases hs with rfl | rfl | rfl <;> decide)).mono ?_) ?_
                     · intro e w6 hs
                       have hk : Wk B b w (wdN w4.drew acWs) := HK4.out.drew.alloc hB4 _
                       have hbk : Bk (wdN w4.drew acWs) w.heap.size #[.string nm, .int .i64 kd, .bool false, .bool true, .string rf, .int .i64 ac] 64 := HB4.out.drew.alloc _
                       rcases WS.yes (Wk.refl B b _) hs with ⟨rfl, h1, h2⟩ | ⟨rfl, q, h1, h2, h3, h4⟩
                       · refine .inr ⟨_, rfl, rfl, ?_⟩
                         rw [← HE4.out, h1]
                         exact ⟨rfl, hk.trans h2⟩
                       · exact .inl ⟨rfl, q, h1, h2, h3, hk.trans h4, h4.bk hbk hne (by decide)⟩
                     rintro w5 ⟨l5, h1, h2, h3, h4, hbk⟩
                     have H15 := Lib.hid h1
                     have HW5 := Lib.hid h2
                     have HL5 := Lib.hid h3
                     have HK5 := Lib.hid h4
                     have HB5 := Lib.hid hbk
                     have hb5 := h2.lt
                     have hB5 := h2.le
                     have hC5 := hbk.lt
                     clear h1 h2 h3 h4 hbk))
                all_goals
                  have he := HE4.out
                  rw [H15.out] at he
                  have HE5 := Lib.hid he
                  clear he H15
                  go_wp2
                  go_end0
                  rw [← HE5.out]
                  exact ⟨rfl, HW5.out, HL5.out, HK5.out⟩
      · have he := HE2.out
        unfold nulW at he
        clear HE2
        have HE2 := Lib.hid (show WS B b w (Option.bind (catW (some [w_null]) (uniW uni rf ac)) (addW l2)) = S from he)
        clear he
        go_wp2_with fail
        refine (add_c B b w2.heap.size l2 [w_null] 1 _ (HW2.out.alloc _) HL2.out (Ws.new w2 b [w_null] _ (rfl) hb2 _ rfl) rfl (by omega) (by intro s hs; simp only [List.mem_singleton] at hs; subst hs; decide)).mono ?_
        rintro e w3 hs
        rcases WS.yes (Wk.refl B b _) hs with ⟨rfl, h1, h2⟩ | ⟨rfl, l3, h1, h2, h3, h4⟩
        · refine ⟨rfl, ?_⟩
          rw [← HE2.out, catW_add, show (some [w_null]).bind (addW l2) = none from h1]
          exact ⟨rfl, (HK2.out.alloc hB2 _).trans h2⟩
        · have he := HE2.out
          rw [catW_add, show (some [w_null]).bind (addW l2) = some l3 from h1] at he
          have HE3 := Lib.hid (show WS B b w (Option.bind (uniW uni rf ac) (addW l3)) = S from he)
          clear he
          have HW3 := Lib.hid h2
          have HL3 := Lib.hid h3
          have HK3 := Lib.hid ((HK2.out.alloc hB2 _).trans h4)
          have HB3 := Lib.hid (h4.bk (HB2.out.alloc _) hne (by decide))
          have hb3 := h2.lt
          have hB3 := h2.le
          have hC3 := HB3.out.lt
          have d03 : w3.cell? ⟨w.heap.size, 0, none⟩ = some (.string nm) := HB3.out.cell 0
          have d13 : w3.cell? ⟨w.heap.size, 1, none⟩ = some (.int .i64 kd) := HB3.out.cell 1
          have d23 : w3.cell? ⟨w.heap.size, 2, none⟩ = some (.bool true) := HB3.out.cell 2
          have d33 : w3.cell? ⟨w.heap.size, 3, none⟩ = some (.bool uni) := HB3.out.cell 3
          have d43 : w3.cell? ⟨w.heap.size, 4, none⟩ = some (.string rf) := HB3.out.cell 4
          have d53 : w3.cell? ⟨w.heap.size, 5, none⟩ = some (.int .i64 ac) := HB3.out.cell 5
          clear h1 h2 h3 h4 hs
          cases uni
          · have he := HE3.out
            unfold uniW at he
            rw [catW_add] at he
            clear HE3
            have HE3 := Lib.hid (show WS B b w (Option.bind (refW rf ac) (addW l3)) = S from he)
            clear he
            by_cases hrf : rf.size = 0
            · have he := HE3.out
              unfold refW at he
              rw [if_pos hrf] at he
              clear HE3
              have HE3 := Lib.hid (show WS B b w (some l3) = S from he)
              have hrne := size_eq hrf
              clear he hrf
              go_wp2
              go_end0
              rw [← HE3.out]
              exact ⟨rfl, HW3.out, HL3.out, HK3.out⟩
            · have he := HE3.out
              unfold refW at he
              rw [if_neg hrf] at he
              clear HE3
              have HE3 := Lib.hid he
              have hrne := size_ne hrf
              clear he
              go_wp2_with fail
              refine (add_c B b w3.heap.size l3 [w_ref, rf.data.toList] 2 _ (HW3.out.alloc _) HL3.out (Ws.new w3 b [w_ref, rf.data.toList] _ (by rw [List.map_cons, List.map_cons, List.map_nil, ba_back]; rfl) hb3 _ rfl) rfl (by omega) (by intro s hs; simp only [List.mem_cons, List.not_mem_nil, or_false] at hs; rcases hs with rfl | rfl; exact (by decide); exact Hr.out)).mono ?_
              rintro e w4 hs
              rcases WS.yes (Wk.refl B b _) hs with ⟨rfl, h1, h2⟩ | ⟨rfl, l4, h1, h2, h3, h4⟩
              · refine ⟨rfl, ?_⟩
                rw [← HE3.out, catW_add, show (some [w_ref, rf.data.toList]).bind (addW l3) = none from h1]
                exact ⟨rfl, (HK3.out.alloc hB3 _).trans h2⟩
              · have he := HE3.out
                rw [catW_add, show (some [w_ref, rf.data.toList]).bind (addW l3) = some l4 from h1] at he
                have HE4 := Lib.hid (show WS B b w (Option.bind (chW ac acWs) (addW l4)) = S from he)
                clear he
                have HW4 := Lib.hid h2
                have HL4 := Lib.hid h3
                have HK4 := Lib.hid ((HK3.out.alloc hB3 _).trans h4)
                have HB4 := Lib.hid (h4.bk (HB3.out.alloc _) hne (by decide))
                have hb4 := h2.lt
                have hB4 := h2.le
                have hC4 := HB4.out.lt
                have d04 : w4.cell? ⟨w.heap.size, 0, none⟩ = some (.string nm) := HB4.out.cell 0
                have d14 : w4.cell? ⟨w.heap.size, 1, none⟩ = some (.int .i64 kd) := HB4.out.cell 1
                have d24 : w4.cell? ⟨w.heap.size, 2, none⟩ = some (.bool true) := HB4.out.cell 2
                have d34 : w4.cell? ⟨w.heap.size, 3, none⟩ = some (.bool false) := HB4.out.cell 3
                have d44 : w4.cell? ⟨w.heap.size, 4, none⟩ = some (.string rf) := HB4.out.cell 4
                have d54 : w4.cell? ⟨w.heap.size, 5, none⟩ = some (.int .i64 ac) := HB4.out.cell 5
                clear h1 h2 h3 h4 hs
                go_wp2_with fail
                go_region_law (first
                  | (refine step_callO rfl 166 #[] (by kernel_rfl) (.slice (some ⟨w4.heap.size, 0, none⟩) 3 3) (fun w' => w' = wdN w4.drew acWs) ((acts_c _).mono ?_) ?_
                     · rintro e w5 ⟨rfl, rfl⟩
                       exact .inl ⟨by first | rfl | simp, rfl⟩
                     rintro w5 rfl)
                  | (refine step_callO rfl 82 #[.pointer (some ⟨b, 0, none⟩), .int .i64 ac, .slice (some ⟨w4.heap.size, 0, none⟩) 3 3] (by first | kernel_rfl | rfl) (.tuple #[]) (fun w' => ∃ q, (chW ac acWs).bind (addW l4) = some q ∧ Wr w' B b q ∧ q.length ≤ 20000 ∧ Wk B b w w' ∧ Bk w' w.heap.size #[.string nm, .int .i64 kd, .bool true, .bool false, .string rf, .int .i64 ac] 64) ((choice_w B b w4.heap.size l4 ac acWs 3 (wdN w4.drew acWs) (HW4.out.drew.alloc _) HL4.out (Ws.new w4.drew b acWs _ rfl hb4 _ (by first | rfl | simp)) rfl (by omega) (by intro s hs; simp [acWs] at hs; rcases hs with rfl | rfl | rfl <;> decide)).mono ?_) ?_
                     · intro e w6 hs
                       have hk : Wk B b w (wdN w4.drew acWs) := HK4.out.drew.alloc hB4 _
                       have hbk : Bk (wdN w4.drew acWs) w.heap.size #[.string nm, .int .i64 kd, .bool true, .bool false, .string rf, .int .i64 ac] 64 := HB4.out.drew.alloc _
                       rcases WS.yes (Wk.refl B b _) hs with ⟨rfl, h1, h2⟩ | ⟨rfl, q, h1, h2, h3, h4⟩
                       · refine .inr ⟨_, rfl, rfl, ?_⟩
                         rw [← HE4.out, h1]
                         exact ⟨rfl, hk.trans h2⟩
                       · exact .inl ⟨rfl, q, h1, h2, h3, hk.trans h4, h4.bk hbk hne (by decide)⟩
                     rintro w5 ⟨l5, h1, h2, h3, h4, hbk⟩
                     have H15 := Lib.hid h1
                     have HW5 := Lib.hid h2
                     have HL5 := Lib.hid h3
                     have HK5 := Lib.hid h4
                     have HB5 := Lib.hid hbk
                     have hb5 := h2.lt
                     have hB5 := h2.le
                     have hC5 := hbk.lt
                     clear h1 h2 h3 h4 hbk))
                all_goals
                  have he := HE4.out
                  rw [H15.out] at he
                  have HE5 := Lib.hid he
                  clear he H15
                  go_wp2
                  go_end0
                  rw [← HE5.out]
                  exact ⟨rfl, HW5.out, HL5.out, HK5.out⟩
          · have he := HE3.out
            unfold uniW at he
            clear HE3
            have HE3 := Lib.hid (show WS B b w (Option.bind (catW (some [w_unique]) (refW rf ac)) (addW l3)) = S from he)
            clear he
            go_wp2_with fail
            refine (add_c B b w3.heap.size l3 [w_unique] 1 _ (HW3.out.alloc _) HL3.out (Ws.new w3 b [w_unique] _ (rfl) hb3 _ rfl) rfl (by omega) (by intro s hs; simp only [List.mem_singleton] at hs; subst hs; decide)).mono ?_
            rintro e w4 hs
            rcases WS.yes (Wk.refl B b _) hs with ⟨rfl, h1, h2⟩ | ⟨rfl, l4, h1, h2, h3, h4⟩
            · refine ⟨rfl, ?_⟩
              rw [← HE3.out, catW_add, show (some [w_unique]).bind (addW l3) = none from h1]
              exact ⟨rfl, (HK3.out.alloc hB3 _).trans h2⟩
            · have he := HE3.out
              rw [catW_add, show (some [w_unique]).bind (addW l3) = some l4 from h1] at he
              have HE4 := Lib.hid (show WS B b w (Option.bind (refW rf ac) (addW l4)) = S from he)
              clear he
              have HW4 := Lib.hid h2
              have HL4 := Lib.hid h3
              have HK4 := Lib.hid ((HK3.out.alloc hB3 _).trans h4)
              have HB4 := Lib.hid (h4.bk (HB3.out.alloc _) hne (by decide))
              have hb4 := h2.lt
              have hB4 := h2.le
              have hC4 := HB4.out.lt
              have d04 : w4.cell? ⟨w.heap.size, 0, none⟩ = some (.string nm) := HB4.out.cell 0
              have d14 : w4.cell? ⟨w.heap.size, 1, none⟩ = some (.int .i64 kd) := HB4.out.cell 1
              have d24 : w4.cell? ⟨w.heap.size, 2, none⟩ = some (.bool true) := HB4.out.cell 2
              have d34 : w4.cell? ⟨w.heap.size, 3, none⟩ = some (.bool true) := HB4.out.cell 3
              have d44 : w4.cell? ⟨w.heap.size, 4, none⟩ = some (.string rf) := HB4.out.cell 4
              have d54 : w4.cell? ⟨w.heap.size, 5, none⟩ = some (.int .i64 ac) := HB4.out.cell 5
              clear h1 h2 h3 h4 hs
              by_cases hrf : rf.size = 0
              · have he := HE4.out
                unfold refW at he
                rw [if_pos hrf] at he
                clear HE4
                have HE4 := Lib.hid (show WS B b w (some l4) = S from he)
                have hrne := size_eq hrf
                clear he hrf
                go_wp2
                go_end0
                rw [← HE4.out]
                exact ⟨rfl, HW4.out, HL4.out, HK4.out⟩
              · have he := HE4.out
                unfold refW at he
                rw [if_neg hrf] at he
                clear HE4
                have HE4 := Lib.hid he
                have hrne := size_ne hrf
                clear he
                go_wp2_with fail
                refine (add_c B b w4.heap.size l4 [w_ref, rf.data.toList] 2 _ (HW4.out.alloc _) HL4.out (Ws.new w4 b [w_ref, rf.data.toList] _ (by rw [List.map_cons, List.map_cons, List.map_nil, ba_back]; rfl) hb4 _ rfl) rfl (by omega) (by intro s hs; simp only [List.mem_cons, List.not_mem_nil, or_false] at hs; rcases hs with rfl | rfl; exact (by decide); exact Hr.out)).mono ?_
                rintro e w5 hs
                rcases WS.yes (Wk.refl B b _) hs with ⟨rfl, h1, h2⟩ | ⟨rfl, l5, h1, h2, h3, h4⟩
                · refine ⟨rfl, ?_⟩
                  rw [← HE4.out, catW_add, show (some [w_ref, rf.data.toList]).bind (addW l4) = none from h1]
                  exact ⟨rfl, (HK4.out.alloc hB4 _).trans h2⟩
                · have he := HE4.out
                  rw [catW_add, show (some [w_ref, rf.data.toList]).bind (addW l4) = some l5 from h1] at he
                  have HE5 := Lib.hid (show WS B b w (Option.bind (chW ac acWs) (addW l5)) = S from he)
                  clear he
                  have HW5 := Lib.hid h2
                  have HL5 := Lib.hid h3
                  have HK5 := Lib.hid ((HK4.out.alloc hB4 _).trans h4)
                  have HB5 := Lib.hid (h4.bk (HB4.out.alloc _) hne (by decide))
                  have hb5 := h2.lt
                  have hB5 := h2.le
                  have hC5 := HB5.out.lt
                  have d05 : w5.cell? ⟨w.heap.size, 0, none⟩ = some (.string nm) := HB5.out.cell 0
                  have d15 : w5.cell? ⟨w.heap.size, 1, none⟩ = some (.int .i64 kd) := HB5.out.cell 1
                  have d25 : w5.cell? ⟨w.heap.size, 2, none⟩ = some (.bool true) := HB5.out.cell 2
                  have d35 : w5.cell? ⟨w.heap.size, 3, none⟩ = some (.bool true) := HB5.out.cell 3
                  have d45 : w5.cell? ⟨w.heap.size, 4, none⟩ = some (.string rf) := HB5.out.cell 4
                  have d55 : w5.cell? ⟨w.heap.size, 5, none⟩ = some (.int .i64 ac) := HB5.out.cell 5
                  clear h1 h2 h3 h4 hs
                  go_wp2_with fail
                  go_region_law (first
                    | (refine step_callO rfl 166 #[] (by kernel_rfl) (.slice (some ⟨w5.heap.size, 0, none⟩) 3 3) (fun w' => w' = wdN w5.drew acWs) ((acts_c _).mono ?_) ?_
                       · rintro e w5 ⟨rfl, rfl⟩
                         exact .inl ⟨by first | rfl | simp, rfl⟩
                       rintro w5 rfl)
                    | (refine step_callO rfl 82 #[.pointer (some ⟨b, 0, none⟩), .int .i64 ac, .slice (some ⟨w5.heap.size, 0, none⟩) 3 3] (by first | kernel_rfl | rfl) (.tuple #[]) (fun w' => ∃ q, (chW ac acWs).bind (addW l5) = some q ∧ Wr w' B b q ∧ q.length ≤ 20000 ∧ Wk B b w w' ∧ Bk w' w.heap.size #[.string nm, .int .i64 kd, .bool true, .bool true, .string rf, .int .i64 ac] 64) ((choice_w B b w5.heap.size l5 ac acWs 3 (wdN w5.drew acWs) (HW5.out.drew.alloc _) HL5.out (Ws.new w5.drew b acWs _ rfl hb5 _ (by first | rfl | simp)) rfl (by omega) (by intro s hs; simp [acWs] at hs; rcases hs with rfl | rfl | rfl <;> decide)).mono ?_) ?_
                       · intro e w6 hs
                         have hk : Wk B b w (wdN w5.drew acWs) := HK5.out.drew.alloc hB5 _
                         have hbk : Bk (wdN w5.drew acWs) w.heap.size #[.string nm, .int .i64 kd, .bool true, .bool true, .string rf, .int .i64 ac] 64 := HB5.out.drew.alloc _
                         rcases WS.yes (Wk.refl B b _) hs with ⟨rfl, h1, h2⟩ | ⟨rfl, q, h1, h2, h3, h4⟩
                         · refine .inr ⟨_, rfl, rfl, ?_⟩
                           rw [← HE5.out, h1]
                           exact ⟨rfl, hk.trans h2⟩
                         · exact .inl ⟨rfl, q, h1, h2, h3, hk.trans h4, h4.bk hbk hne (by decide)⟩
                       rintro w6 ⟨l6, h1, h2, h3, h4, hbk⟩
                       have H16 := Lib.hid h1
                       have HW6 := Lib.hid h2
                       have HL6 := Lib.hid h3
                       have HK6 := Lib.hid h4
                       have HB6 := Lib.hid hbk
                       have hb6 := h2.lt
                       have hB6 := h2.le
                       have hC6 := hbk.lt
                       clear h1 h2 h3 h4 hbk))
                  all_goals
                    have he := HE5.out
                    rw [H16.out] at he
                    have HE6 := Lib.hid he
                    clear he H16
                    go_wp2
                    go_end0
                    rw [← HE6.out]
                    exact ⟨rfl, HW6.out, HL6.out, HK6.out⟩
end Go.Proofs.YtjgpmnffagdhlaaGreatDoor
namespace Go.Proofs.YtjgpmnffagdhlaaGreatDoor
open Go Go.RowKit
set_option maxRecDepth 100000
set_option maxHeartbeats 8000000 in
theorem colI_w (B b k1 k2 : Nat) (lc : List UInt8) (A : Option Addr) (n c : Nat) (xs : List Cl) (u : World) (k : Nat) (x : Cl) (h1 : u.cell? ⟨k1, 0, none⟩ = some (.pointer (some ⟨b, 0, none⟩))) (h2 : u.cell? ⟨k2, 1, none⟩ = some (.slice A n c)) (hs : SlG u A 6 rdCl xs) (hn : xs.length = n) (hm : n ≤ maxLen) (hx : xs[k]? = some x) (hw : Wr u B b lc) (hl : lc.length ≤ 20000) (hz : x.name.size ≤ 4611686018427387904 ∧ x.ref.size ≤ 4611686018427387904) :
    Calls Tryz.prog 120 #[.int .i64 k, .pointer (some ⟨k1, 0, none⟩), .pointer (some ⟨k2, 0, none⟩)] u (WS B b u ((clW x).bind (addW lc))) := by
  obtain ⟨S, hS⟩ : ∃ S, WS B b u ((clW x).bind (addW lc)) = S := ⟨_, rfl⟩
  rw [hS]
  unfold maxLen at hm
  have hlt : k < n := by rw [← hn]; exact (List.getElem?_eq_some_iff.1 hx).1
  obtain ⟨g, off, hA, hg, hcell⟩ : ∃ g off, A = some ⟨g, off, none⟩ ∧ g < u.heap.size ∧ ∀ i x, xs[i]? = some x → ∀ j w, (rdCl x)[j]? = some w → u.cell? ⟨g, off + i * 6 + j, none⟩ = some w := by
    rcases hs with h | h
    · rw [h] at hx; simp at hx
    · exact h
  subst hA
  have hc := hcell k x hx
  have e0 : u.cell? ⟨g, off + k * 6, none⟩ = some (.string x.name) := hc 0 _ rfl
  have e1 : u.cell? ⟨g, off + k * 6 + 1, none⟩ = some (.int .i64 x.kind) := hc 1 _ rfl
  have e2 : u.cell? ⟨g, off + k * 6 + 2, none⟩ = some (.bool x.nul) := hc 2 _ rfl
  have e3 : u.cell? ⟨g, off + k * 6 + 3, none⟩ = some (.bool x.uni) := hc 3 _ rfl
  have e4 : u.cell? ⟨g, off + k * 6 + 4, none⟩ = some (.string x.ref) := hc 4 _ rfl
  have e5 : u.cell? ⟨g, off + k * 6 + 5, none⟩ = some (.int .i64 x.act) := hc 5 _ rfl
  have HS := Lib.hid hS
  have HC := Lib.hid (column_w B b lc x u.drew hw.drew hl hz.1 hz.2)
  clear hS hs hn hx hw hl hcell hc
  go_enter Tryz.func120, Tryz.ntmps120
  go_region_law (first
    | (refine step_callO rfl 121 #[.pointer (some ⟨b, 0, none⟩), x.w] (by kernel_rfl) (.tuple #[]) (fun w' => S (.returned (.tuple #[])) w') (HC.out.mono ?_) ?_
       · intro e w6 hs
         rcases (WS.from ((Wk.refl B b u).drew) hs).out HS.out with ⟨rfl, h⟩ | ⟨rfl, h⟩
         · exact .inr ⟨_, rfl, rfl, h⟩
         · exact .inl ⟨rfl, h⟩
       intro w6 hs
       have H6 := Lib.hid hs
       clear hs))
  all_goals
    go_end0
    exact H6.out
set_option maxHeartbeats 8000000 in
theorem pickI_w (B b k1 k2 : Nat) (lc : List UInt8) (A : Option Addr) (n c : Nat) (xs : List Int) (u : World) (k : Nat) (x : Int) (h1 : u.cell? ⟨k1, 0, none⟩ = some (.pointer (some ⟨b, 0, none⟩))) (h2 : u.cell? ⟨k2, 6, none⟩ = some (.slice A n c)) (hs : SlG u A 1 rdI xs) (hn : xs.length = n) (hm : n ≤ maxLen) (hx : xs[k]? = some x) (hw : Wr u B b lc) (hl : lc.length ≤ 20000) (hG : Gw B u) (hz : -9223372036854775808 ≤ x ∧ x ≤ 9223372036854775807) :
    Calls Tryz.prog 123 #[.int .i64 k, .pointer (some ⟨k1, 0, none⟩), .pointer (some ⟨k2, 0, none⟩)] u (WS B b u (addW lc [Lib.itoa x])) := by
  obtain ⟨S, hS⟩ : ∃ S, WS B b u (addW lc [Lib.itoa x]) = S := ⟨_, rfl⟩
  rw [hS]
  unfold maxLen at hm
  have hlt : k < n := by rw [← hn]; exact (List.getElem?_eq_some_iff.1 hx).1
  obtain ⟨g, off, hA, hg, hcell⟩ : ∃ g off, A = some ⟨g, off, none⟩ ∧ g < u.heap.size ∧ ∀ i x, xs[i]? = some x → ∀ j w, (rdI x)[j]? = some w → u.cell? ⟨g, off + i * 1 + j, none⟩ = some w := by
    rcases hs with h | h
    · rw [h] at hx; simp at hx
    · exact h
  subst hA
  have hc := hcell k x hx
  have e0 : u.cell? ⟨g, off + k, none⟩ = some (.int .i64 x) := by have := hc 0 _ rfl; simpa using this
  have HS := Lib.hid hS
  have HC := Lib.hid (number_w B b lc x u.drew hw.drew hl (hG.below ((Below.refl B u).drew)) hz)
  clear hS hs hn hx hw hl hcell hc
  go_enter Tryz.func123, Tryz.ntmps123
  go_region_law (first
    | (refine step_callO rfl 124 #[.pointer (some ⟨b, 0, none⟩), .int .i64 x] (by kernel_rfl) (.tuple #[]) (fun w' => S (.returned (.tuple #[])) w') (HC.out.mono ?_) ?_
       · intro e w6 hs
         rcases (WS.from ((Wk.refl B b u).drew) hs).out HS.out with ⟨rfl, h⟩ | ⟨rfl, h⟩
         · exact .inr ⟨_, rfl, rfl, h⟩
         · exact .inl ⟨rfl, h⟩
       intro w6 hs
       have H6 := Lib.hid hs
       clear hs))
  all_goals
    go_end0
    exact H6.out
set_option maxHeartbeats 8000000 in
theorem aggI_w (B b k1 k2 : Nat) (lc : List UInt8) (A : Option Addr) (n c : Nat) (xs : List Ag) (u : World) (k : Nat) (x : Ag) (h1 : u.cell? ⟨k1, 0, none⟩ = some (.pointer (some ⟨b, 0, none⟩))) (h2 : u.cell? ⟨k2, 8, none⟩ = some (.slice A n c)) (hs : SlG u A 2 rdAg xs) (hn : xs.length = n) (hm : n ≤ maxLen) (hx : xs[k]? = some x) (hw : Wr u B b lc) (hl : lc.length ≤ 20000) (hG : Gw B u) (hz : -9223372036854775808 ≤ x.col ∧ x.col ≤ 9223372036854775807) :
    Calls Tryz.prog 125 #[.int .i64 k, .pointer (some ⟨k1, 0, none⟩), .pointer (some ⟨k2, 0, none⟩)] u (WS B b u ((agW x).bind (addW lc))) := by
  obtain ⟨S, hS⟩ : ∃ S, WS B b u ((agW x).bind (addW lc)) = S := ⟨_, rfl⟩
  rw [hS]
  unfold maxLen at hm
  have hlt : k < n := by rw [← hn]; exact (List.getElem?_eq_some_iff.1 hx).1
  obtain ⟨g, off, hA, hg, hcell⟩ : ∃ g off, A = some ⟨g, off, none⟩ ∧ g < u.heap.size ∧ ∀ i x, xs[i]? = some x → ∀ j w, (rdAg x)[j]? = some w → u.cell? ⟨g, off + i * 2 + j, none⟩ = some w := by
    rcases hs with h | h
    · rw [h] at hx; simp at hx
    · exact h
  subst hA
  have hc := hcell k x hx
  have e0 : u.cell? ⟨g, off + k * 2, none⟩ = some (.int .i64 x.fn) := hc 0 _ rfl
  have e1 : u.cell? ⟨g, off + k * 2 + 1, none⟩ = some (.int .i64 x.col) := hc 1 _ rfl
  have HS := Lib.hid hS
  have HC := Lib.hid (agg_w B b lc x u.drew hw.drew hl (hG.below ((Below.refl B u).drew)) hz)
  clear hS hs hn hx hw hl hcell hc
  go_enter Tryz.func125, Tryz.ntmps125
  go_region_law (first
    | (refine step_callO rfl 126 #[.pointer (some ⟨b, 0, none⟩), x.w] (by kernel_rfl) (.tuple #[]) (fun w' => S (.returned (.tuple #[])) w') (HC.out.mono ?_) ?_
       · intro e w6 hs
         rcases (WS.from ((Wk.refl B b u).drew) hs).out HS.out with ⟨rfl, h⟩ | ⟨rfl, h⟩
         · exact .inr ⟨_, rfl, rfl, h⟩
         · exact .inl ⟨rfl, h⟩
       intro w6 hs
       have H6 := Lib.hid hs
       clear hs))
  all_goals
    go_end0
    exact H6.out
end Go.Proofs.YtjgpmnffagdhlaaGreatDoor
namespace Go.Proofs.YtjgpmnffagdhlaaGreatDoor
open Go Go.RowKit
set_option maxRecDepth 100000
/-- The words of checks, of a table. -/
def chkW (es : List (List Nd)) : List (List UInt8) := es.flatMap fun e => w_check :: exprW e
def tbW (t : Tb) : Option (List (List UInt8)) := catW (some [t.name.data.toList, s_lp]) (catW (listW clW t.cols) (some (s_rp :: chkW t.checks)))
/-- A table whose texts are not long beyond reason. -/
structure TbOk (t : Tb) : Prop where
  name : t.name.size ≤ 4611686018427387904
  cols : ∀ c ∈ t.cols, c.name.size ≤ 4611686018427387904 ∧ c.ref.size ≤ 4611686018427387904
  chks : ∀ e ∈ t.checks, ∀ x ∈ e, NdOk x
set_option maxHeartbeats 16000000 in
theorem table_w (B b : Nat) (l : List UInt8) (t : Tm) (w : World) (hw : Wr w B b l) (hl : l.length ≤ 20000) (hG : Gw B w) (ht : ∀ u, Below B w u → t.In u) (hok : TbOk t.tb) :
    Calls Tryz.prog 83 #[.pointer (some ⟨b, 0, none⟩), t.w] w (WS B b w ((tbW t.tb).bind (addW l))) := by
  obtain ⟨S, hS⟩ : ∃ S, WS B b w ((tbW t.tb).bind (addW l)) = S := ⟨_, rfl⟩
  rw [hS]
  obtain ⟨nm, ⟨cA, cn, cc, cxs⟩, ⟨kA, kn, kc, kxs⟩⟩ := t
  have hwl := hw.lt
  have hwB := hw.le
  obtain ⟨w0, hw0⟩ : ∃ w0, (w.alloc (.cells #[.pointer (some ⟨b, 0, none⟩)] 140)).alloc (.cells #[.string nm, .slice cA cn cc, .slice kA kn kc] 25) = w0 := ⟨_, rfl⟩
  have hsz0 : w0.heap.size = w.heap.size + 1 + 1 := by rw [← hw0]; simp
  have HW0 : Hid (Wr w0 B b l) := Lib.hid (by rw [← hw0]; exact (hw.alloc _).alloc _)
  have HK0 : Hid (Wk B b w w0) := Lib.hid (by rw [← hw0]; exact ((Wk.refl B b w).alloc hwB _).alloc (by simp; omega) _)
  have HP0 : Hid (Bk w0 w.heap.size #[.pointer (some ⟨b, 0, none⟩)] 140) := Lib.hid (by rw [← hw0]; exact (Bk.new w _ _).alloc _)
  have HB0 : Hid (Bk w0 (w.heap.size + 1) #[.string nm, .slice cA cn cc, .slice kA kn kc] 25) := Lib.hid (by
    rw [← hw0]
    have := Bk.new (w.alloc (.cells #[.pointer (some ⟨b, 0, none⟩)] 140)) #[.string nm, .slice cA cn cc, .slice kA kn kc] 25
    simpa using this)
  have hne1 : w.heap.size ≠ b := by omega
  have hne2 : w.heap.size + 1 ≠ b := by omega
  have hb0 := HW0.out.lt
  have hB0 := HW0.out.le
  have p0 : w0.cell? ⟨w.heap.size, 0, none⟩ = some (.pointer (some ⟨b, 0, none⟩)) := HP0.out.cell 0
  have d0 : w0.cell? ⟨w.heap.size + 1, 0, none⟩ = some (.string nm) := HB0.out.cell 0
  have HE0 := Lib.hid (show WS B b w (Option.bind (catW (some [nm.data.toList, s_lp]) (catW (listW clW cxs) (some (s_rp :: chkW (kxs.map (·.xs)))))) (addW l)) = S from hS)
  have HL0 := Lib.hid hl
  have HG := Lib.hid hG
  have HT := Lib.hid ht
  have HO := Lib.hid hok
  clear hS hw hl hG ht hok
  go_enter Tryz.func83, Tryz.ntmps83
  go_wp2_with fail
  rw [← hsz0]
  refine (add_c B b w0.heap.size l [nm.data.toList, s_lp] 2 _ (HW0.out.alloc _) HL0.out (Ws.new w0 b [nm.data.toList, s_lp] _ (by rw [List.map_cons, List.map_cons, List.map_nil, ba_back]; rfl) hb0 _ rfl) rfl (by omega) (by intro s hs; simp only [List.mem_cons, List.not_mem_nil, or_false] at hs; rcases hs with rfl | rfl; exact HO.out.name; decide)).mono ?_
  rintro e w1 hs
  rcases WS.yes (Wk.refl B b _) hs with ⟨rfl, h1, h2⟩ | ⟨rfl, l1, h1, h2, h3, h4⟩
  · refine ⟨rfl, ?_⟩
    rw [← HE0.out, catW_add, show (some [nm.data.toList, s_lp]).bind (addW l) = none from h1]
    exact ⟨rfl, (HK0.out.alloc hB0 _).trans h2⟩
  · have he := HE0.out
    rw [catW_add, show (some [nm.data.toList, s_lp]).bind (addW l) = some l1 from h1] at he
    have he : WS B b w ((catW (listW clW cxs) (some (s_rp :: chkW (kxs.map (·.xs))))).bind (addW l1)) = S := he
    rw [catW_add] at he
    have HE1 := Lib.hid he
    have HW1 := Lib.hid h2
    have HL1 := Lib.hid h3
    have HK1 := Lib.hid ((HK0.out.alloc hB0 _).trans h4)
    have HP1 := Lib.hid (h4.bk (HP0.out.alloc _) hne1 (by decide))
    have HB1 := Lib.hid (h4.bk (HB0.out.alloc _) hne2 (by decide))
    have hb1 := h2.lt
    have hB1 := h2.le
    have hC1 := HB1.out.lt
    have p1 : w1.cell? ⟨w.heap.size, 0, none⟩ = some (.pointer (some ⟨b, 0, none⟩)) := HP1.out.cell 0
    have d1 : w1.cell? ⟨w.heap.size + 1, 1, none⟩ = some (.slice cA cn cc) := HB1.out.cell 1
    clear h1 h2 h3 h4 hs he hw0 p0 d0 HP0 HB0 HW0 HE0
    have HL := Lib.hid (list_w clW cxs B b 120 (.pointer (some ⟨w.heap.size, 0, none⟩)) (.pointer (some ⟨w.heap.size + 1, 0, none⟩)) l1 cn w1 HW1.out HL1.out (HT.out w (Below.refl B w)).cols.len (HT.out w (Below.refl B w)).cols.max (fun k a u lc ha hk hwr hlc => by
      have hu := HT.out u (HK1.out.trans hk).below
      exact colI_w B b _ _ lc cA cn cc cxs u k a ((hk.bk HP1.out hne1 (by decide)).cell 0) ((hk.bk HB1.out hne2 (by decide)).cell 1) hu.cols.sl hu.cols.len hu.cols.max ha hwr hlc (HO.out.cols a (List.mem_of_getElem? ha))) (fun u k => by kernel_rfl))
    go_wp2_with fail
    refine HL.out.mono ?_
    rintro e w2 hs
    rcases WS.yes HK1.out hs with ⟨rfl, h1, h2⟩ | ⟨rfl, l2, h1, h2, h3, h4⟩
    · refine ⟨rfl, ?_⟩
      rw [← HE1.out, h1]
      exact ⟨rfl, h2⟩
    · have hk12 : Wk B b w1 w2 := by
        rcases WS.yes (Wk.refl B b w1) hs with ⟨h, _⟩ | ⟨_, _, _, _, _, h⟩
        · cases h
        · exact h
      have he := HE1.out
      rw [h1] at he
      have he : WS B b w (addW l2 (s_rp :: chkW (kxs.map (·.xs)))) = S := he
      have HE2 := Lib.hid he
      have HW2 := Lib.hid h2
      have HL2 := Lib.hid h3
      have HK2 := Lib.hid h4
      have HP2 := Lib.hid (hk12.bk HP1.out hne1 (by decide))
      have HB2 := Lib.hid (hk12.bk HB1.out hne2 (by decide))
      have hb2 := h2.lt
      have hB2 := h2.le
      have hC2 := HB2.out.lt
      have p2 : w2.cell? ⟨w.heap.size, 0, none⟩ = some (.pointer (some ⟨b, 0, none⟩)) := HP2.out.cell 0
      clear h1 h2 h3 h4 hs he hk12 HP1 HB1 HE1 HW1 HL1 HL p1 d1
      go_wp2_with fail
      refine (add_c B b w2.heap.size l2 [s_rp] 1 _ (HW2.out.alloc _) HL2.out (Ws.new w2 b [s_rp] _ rfl hb2 _ rfl) rfl (by omega) (by intro s hs; simp only [List.mem_singleton] at hs; subst hs; decide)).mono ?_
      rintro e w3 hs
      have hcat : addW l2 (s_rp :: chkW (kxs.map (·.xs))) = (addW l2 [s_rp]).bind fun q => addW q (chkW (kxs.map (·.xs))) := addW_app [s_rp] _ l2
      rcases WS.yes (Wk.refl B b _) hs with ⟨rfl, h1, h2⟩ | ⟨rfl, l3, h1, h2, h3, h4⟩
      · refine ⟨rfl, ?_⟩
        rw [← HE2.out, hcat, h1]
        exact ⟨rfl, (HK2.out.alloc hB2 _).trans h2⟩
      · have he := HE2.out
        rw [hcat, h1] at he
        have he : WS B b w (addW l3 (chkW (kxs.map (·.xs)))) = S := he
        have HE3 := Lib.hid he
        have HW3 := Lib.hid h2
        have HL3 := Lib.hid h3
        have HK3 := Lib.hid ((HK2.out.alloc hB2 _).trans h4)
        have HP3 := Lib.hid (h4.bk (HP2.out.alloc _) hne1 (by decide))
        have HB3 := Lib.hid (h4.bk (HB2.out.alloc _) hne2 (by decide))
        have hb3 := h2.lt
        have hB3 := h2.le
        have hC3 := HB3.out.lt
        have d3 : w3.cell? ⟨w.heap.size + 1, 2, none⟩ = some (.slice kA kn kc) := HB3.out.cell 2
        have Hkn := Lib.hid (HT.out w (Below.refl B w)).chks.len
        have hkm := (HT.out w (Below.refl B w)).chks.max
        unfold maxLen at hkm
        simp only at hkm Hkn
        clear h1 h2 h3 h4 hs he hcat HP2 HB2 HE2 HW2 HL2 p2 HK2
        go_wp2_with fail
        go_loopw [23] (fun i wr => ∃ (k : Nat) (lc : List UInt8), k ≤ kn ∧ i = .int .i64 k ∧ Hid (Wr wr B b lc) ∧ Hid (lc.length ≤ 20000) ∧ Hid (Wk B b w wr) ∧ Hid (Bk wr w.heap.size #[.pointer (some ⟨b, 0, none⟩)] 140) ∧ Hid (WS B b w (addW lc (chkW ((kxs.map (·.xs)).drop k))) = S)) (fun i _ => kn - (intOf i).toNat)
        case atStart => exact ⟨0, l3, Nat.zero_le _, rfl, HW3, HL3, HK3, HP3, HE3⟩
        case round =>
          obtain ⟨k, lc, hk, rfl, hwr, hlc, hkr, hp, he⟩ := hrel
          have hbr := hwr.out.lt
          have hBr := hwr.out.le
          have p0 : wr.cell? ⟨w.heap.size, 0, none⟩ = some (.pointer (some ⟨b, 0, none⟩)) := hp.out.cell 0
          have hpl := hp.out.lt
          by_cases hlt : k < kn
          · obtain ⟨x, hx⟩ : ∃ x, kxs[k]? = some x := ⟨_, List.getElem?_eq_getElem (by rw [Hkn.out]; exact hlt)⟩
            have hin := HT.out wr hkr.out.below
            obtain ⟨g, off, hA, hg, hcell⟩ : ∃ g off, kA = some ⟨g, off, none⟩ ∧ g < wr.heap.size ∧ ∀ i x, kxs[i]? = some x → ∀ j u, (rdX x)[j]? = some u → wr.cell? ⟨g, off + i * 1 + j, none⟩ = some u := by
              rcases hin.chks.sl with h | h
              · have h : kxs = [] := h
                rw [h] at hx; simp at hx
              · exact h
            subst hA
            have e0 : wr.cell? ⟨g, off + k, none⟩ = some (.slice x.A x.n x.c) := by have := hcell k x hx 0 _ rfl; simpa using this
            have hex := hin.each x (List.mem_of_getElem? hx)
            have Hex := Lib.hid hex
            have Hxm := Lib.hid (List.mem_of_getElem? hx)
            have hdr : (kxs.map (·.xs)).drop k = x.xs :: (kxs.map (·.xs)).drop (k + 1) := by
              have hk2 : k < (kxs.map (·.xs)).length := by rw [List.length_map, Hkn.out]; exact hlt
              rw [List.drop_eq_getElem_cons hk2]
              congr 1
              rw [List.getElem_map]
              rw [List.getElem?_eq_getElem (by rw [Hkn.out]; exact hlt)] at hx
              rw [Option.some.inj hx]
            have he2 := he.out
            rw [hdr] at he2
            have he3 : WS B b w (addW lc ([w_check] ++ (exprW x.xs ++ chkW ((kxs.map (·.xs)).drop (k + 1))))) = S := by
              rw [← he2]; congr 2
            rw [addW_app] at he3
            have He := Lib.hid he3
            clear hcell hin hx hex hdr he he2 he3
            go_wp2_with fail
            refine (add_c B b wr.heap.size lc [w_check] 1 _ (hwr.out.alloc _) hlc.out (Ws.new wr b [w_check] _ rfl hbr _ rfl) rfl (by omega) (by intro s hs; simp only [List.mem_singleton] at hs; subst hs; decide)).mono ?_
            rintro e w5 hs
            rcases WS.yes (Wk.refl B b _) hs with ⟨rfl, h1, h2⟩ | ⟨rfl, l5, h1, h2, h3, h4⟩
            · refine ⟨rfl, ?_⟩
              rw [← He.out, h1]
              exact ⟨rfl, (hkr.out.alloc hBr _).trans h2⟩
            · have he := He.out
              rw [h1, Option.bind_some, addW_app] at he
              have HE5 := Lib.hid he
              have HW5 := Lib.hid h2
              have HL5 := Lib.hid h3
              have HK5 := Lib.hid ((hkr.out.alloc hBr _).trans h4)
              have HP5 := Lib.hid (h4.bk (hp.out.alloc _) hne1 (by decide))
              have p5 : w5.cell? ⟨w.heap.size, 0, none⟩ = some (.pointer (some ⟨b, 0, none⟩)) := HP5.out.cell 0
              have hp5 := HP5.out.lt
              clear h1 h2 h3 h4 hs he He hp hwr hlc hkr p0 e0
              go_wp2_with fail
              refine (expr_w B b l5 x.xs x.A x.n x.c w5 HW5.out HL5.out (HG.out.below HK5.out.below) (HO.out.chks x.xs (List.mem_map.2 ⟨x, Hxm.out, rfl⟩)) Hex.out.len Hex.out.max (fun u hu => ((HT.out u (HK5.out.below.trans hu)).each x Hxm.out).sl)).mono ?_
              rintro e w6 hs
              rcases WS.yes (Wk.refl B b _) hs with ⟨rfl, h1, h2⟩ | ⟨rfl, l6, h1, h2, h3, h4⟩
              · refine ⟨rfl, ?_⟩
                rw [← HE5.out, h1]
                exact ⟨rfl, HK5.out.trans h2⟩
              · have he := HE5.out
                rw [h1, Option.bind_some] at he
                have HE6 := Lib.hid he
                have HW6 := Lib.hid h2
                have HL6 := Lib.hid h3
                have HK6 := Lib.hid (HK5.out.trans h4)
                have HP6 := Lib.hid (h4.bk HP5.out hne1 (by decide))
                clear h1 h2 h3 h4 hs he HE5 HW5 HL5 HP5 p5
                go_wp2_with fail
                go_roundw
                case rel => exact ⟨k + 1, l6, hlt, by simp, HW6, HL6, HK6, HP6, HE6⟩
                case measure => simp [intOf]; omega
          · obtain rfl : k = kn := by omega
            have he2 := he.out
            rw [List.drop_eq_nil_of_le (by rw [List.length_map, Hkn.out]; exact Nat.le_refl _)] at he2
            have He := Lib.hid (show WS B b w (some lc) = S from he2)
            clear he he2
            go_wp2
            go_end0
            rw [← He.out]
            exact ⟨rfl, hwr.out, hlc.out, hkr.out⟩
end Go.Proofs.YtjgpmnffagdhlaaGreatDoor
namespace Go.Proofs.YtjgpmnffagdhlaaGreatDoor
open Go Go.RowKit
set_option maxRecDepth 100000
def numW (x : Int) : Option (List (List UInt8)) := some [Lib.itoa x]
def grpW (grp : Bool) (axs : List Ag) : Option (List (List UInt8)) := if grp then catW (some [w_group]) (listW agW axs) else some []
def picW (pxs : List Int) (grp : Bool) (axs : List Ag) : Option (List (List UInt8)) := catW (some [w_pick]) (catW (listW numW pxs) (grpW grp axs))
def whrW (hxs : List Nd) (pxs : List Int) (grp : Bool) (axs : List Ag) : Option (List (List UInt8)) := if hxs = [] then catW (some []) (picW pxs grp axs) else catW (some [w_where]) (catW (some (exprW hxs)) (picW pxs grp axs))
def wthW (wth : ByteArray) (on0 on1 : Int) (p : Option (List (List UInt8))) : Option (List (List UInt8)) := if wth.size = 0 then catW (some []) p else catW (some [w_join, wth.data.toList, w_on, Lib.itoa on0, s_eq, Lib.itoa on1]) p
/-- The words of a view. -/
def vwW (v : Vw) : Option (List (List UInt8)) := catW (some [v.name.data.toList, w_from, v.frm.data.toList]) (wthW v.wth v.on0 v.on1 (whrW v.whr v.pick v.grp v.aggs))
def I64 (x : Int) : Prop := -9223372036854775808 ≤ x ∧ x ≤ 9223372036854775807
structure VwOk (v : Vw) : Prop where
  name : v.name.size ≤ 4611686018427387904
  frm : v.frm.size ≤ 4611686018427387904
  wth : v.wth.size ≤ 4611686018427387904
  on0 : I64 v.on0
  on1 : I64 v.on1
  whr : ∀ x ∈ v.whr, NdOk x
  pick : ∀ x ∈ v.pick, I64 x
  aggs : ∀ a ∈ v.aggs, I64 a.col
def dfWs : List (List UInt8) := [w_table, w_view]
/-- The words of a definition. -/
def dfW (d : Df) : Option (List (List UInt8)) := catW (chW d.k dfWs) (if d.k = 0 then tbW d.t else vwW d.v)
structure DfOk (d : Df) : Prop where
  t : TbOk d.t
  v : VwOk d.v
end Go.Proofs.YtjgpmnffagdhlaaGreatDoor
namespace Go.Proofs.YtjgpmnffagdhlaaGreatDoor
open Go Go.RowKit
set_option maxRecDepth 100000
set_option maxHeartbeats 32000000 in
theorem view_w (B b : Nat) (l0 : List UInt8) (v : Vm) (w : World) (hw : Wr w B b l0) (hl : l0.length ≤ 20000) (hG : Gw B w) (ht : ∀ u, Below B w u → v.In u) (hok : VwOk v.vw) :
    Calls Tryz.prog 84 #[.pointer (some ⟨b, 0, none⟩), v.w] w (WS B b w ((vwW v.vw).bind (addW l0))) := by
  obtain ⟨S, hS⟩ : ∃ S, WS B b w ((vwW v.vw).bind (addW l0)) = S := ⟨_, rfl⟩
  rw [hS]
  obtain ⟨nm, frm, wth, on0, on1, ⟨hA, hn, hc, hxs⟩, ⟨pA, pn, pc, pxs⟩, grp, ⟨aA, an, ac, axs⟩⟩ := v
  have hwl := hw.lt
  have hwB := hw.le
  obtain ⟨w0, hw0⟩ : ∃ w0, (w.alloc (.cells #[.pointer (some ⟨b, 0, none⟩)] 140)).alloc (.cells #[.string nm, .string frm, .string wth, .int .i64 on0, .int .i64 on1, .slice hA hn hc, .slice pA pn pc, .bool grp, .slice aA an ac] 32) = w0 := ⟨_, rfl⟩
  have hsz0 : w0.heap.size = w.heap.size + 1 + 1 := by rw [← hw0]; simp
  have HW0 : Hid (Wr w0 B b l0) := Lib.hid (by rw [← hw0]; exact (hw.alloc _).alloc _)
  have HK0 : Hid (Wk B b w w0) := Lib.hid (by rw [← hw0]; exact ((Wk.refl B b w).alloc hwB _).alloc (by simp; omega) _)
  have HP0 : Hid (Bk w0 w.heap.size #[.pointer (some ⟨b, 0, none⟩)] 140) := Lib.hid (by rw [← hw0]; exact (Bk.new w _ _).alloc _)
  have HB0 : Hid (Bk w0 (w.heap.size + 1) #[.string nm, .string frm, .string wth, .int .i64 on0, .int .i64 on1, .slice hA hn hc, .slice pA pn pc, .bool grp, .slice aA an ac] 32) := Lib.hid (by
    rw [← hw0]
    have := Bk.new (w.alloc (.cells #[.pointer (some ⟨b, 0, none⟩)] 140)) #[.string nm, .string frm, .string wth, .int .i64 on0, .int .i64 on1, .slice hA hn hc, .slice pA pn pc, .bool grp, .slice aA an ac] 32
    simpa using this)
  have hne1 : w.heap.size ≠ b := by omega
  have hne2 : w.heap.size + 1 ≠ b := by omega
  have hb0 := HW0.out.lt
  have hB0 := HW0.out.le
  have p0 : w0.cell? ⟨w.heap.size, 0, none⟩ = some (.pointer (some ⟨b, 0, none⟩)) := HP0.out.cell 0
  have d0 : w0.cell? ⟨w.heap.size + 1, 0, none⟩ = some (.string nm) := HB0.out.cell 0
  have d1 : w0.cell? ⟨w.heap.size + 1, 1, none⟩ = some (.string frm) := HB0.out.cell 1
  have HE0 := Lib.hid (show WS B b w (Option.bind (catW (some [nm.data.toList, w_from, frm.data.toList]) (wthW wth on0 on1 (whrW hxs pxs grp axs))) (addW l0)) = S from hS)
  have HL0 := Lib.hid hl
  have HG := Lib.hid hG
  have HT := Lib.hid ht
  have HO := Lib.hid hok
  clear hS hw hl hG ht hok
  go_enter Tryz.func84, Tryz.ntmps84
  go_wp2_with fail
  rw [← hsz0]
  refine (add_c B b w0.heap.size l0 [nm.data.toList, w_from, frm.data.toList] 3 _ (HW0.out.alloc _) HL0.out (Ws.new w0 b [nm.data.toList, w_from, frm.data.toList] _ (by rw [List.map_cons, List.map_cons, List.map_cons, List.map_nil, ba_back, ba_back]; rfl) hb0 _ rfl) rfl (by omega) (by intro s hs; simp only [List.mem_cons, List.not_mem_nil, or_false] at hs; rcases hs with rfl | rfl | rfl; exact HO.out.name; decide; exact HO.out.frm)).mono ?_
  rintro e w1 hs
  rcases WS.yes (Wk.refl B b _) hs with ⟨rfl, h1, h2⟩ | ⟨rfl, l1, h1, h2, h3, h4⟩
  · refine ⟨rfl, ?_⟩
    rw [← HE0.out, catW_add, show (some [nm.data.toList, w_from, frm.data.toList]).bind (addW l0) = none from h1]
    exact ⟨rfl, (HK0.out.alloc hB0 _).trans h2⟩
  · have he := HE0.out
    rw [catW_add, show (some [nm.data.toList, w_from, frm.data.toList]).bind (addW l0) = some l1 from h1] at he
    have HE1 := Lib.hid (show WS B b w (Option.bind (wthW wth on0 on1 (whrW hxs pxs grp axs)) (addW l1)) = S from he)
    have HK1 := Lib.hid ((HK0.out.alloc hB0 _).trans h4)
    have HW1 := Lib.hid h2
    have HL1 := Lib.hid h3
    have HP1 := Lib.hid (h4.bk (HP0.out.alloc _) hne1 (by decide))
    have HB1 := Lib.hid (h4.bk (HB0.out.alloc _) hne2 (by decide))
    have hb1 := h2.lt
    have hB1 := h2.le
    have hp1 := HP1.out.lt
    have hv1 := HB1.out.lt
    have p1 : w1.cell? ⟨w.heap.size, 0, none⟩ = some (.pointer (some ⟨b, 0, none⟩)) := HP1.out.cell 0
    have d1_0 : w1.cell? ⟨w.heap.size + 1, 0, none⟩ = some (.string nm) := HB1.out.cell 0
    have d1_1 : w1.cell? ⟨w.heap.size + 1, 1, none⟩ = some (.string frm) := HB1.out.cell 1
    have d1_2 : w1.cell? ⟨w.heap.size + 1, 2, none⟩ = some (.string wth) := HB1.out.cell 2
    have d1_3 : w1.cell? ⟨w.heap.size + 1, 3, none⟩ = some (.int .i64 on0) := HB1.out.cell 3
    have d1_4 : w1.cell? ⟨w.heap.size + 1, 4, none⟩ = some (.int .i64 on1) := HB1.out.cell 4
    have d1_5 : w1.cell? ⟨w.heap.size + 1, 5, none⟩ = some (.slice hA hn hc) := HB1.out.cell 5
    have d1_6 : w1.cell? ⟨w.heap.size + 1, 6, none⟩ = some (.slice pA pn pc) := HB1.out.cell 6
    have d1_7 : w1.cell? ⟨w.heap.size + 1, 7, none⟩ = some (.bool grp) := HB1.out.cell 7
    have d1_8 : w1.cell? ⟨w.heap.size + 1, 8, none⟩ = some (.slice aA an ac) := HB1.out.cell 8
    clear h1 h2 h3 h4 hs he
    clear hw0 hsz0 HE0 HW0 HL0 HK0 HP0 HB0 p0 d0 d1
    by_cases hwz : wth.size = 0
    · have he := HE1.out
      unfold wthW at he
      rw [if_pos hwz, catW_add] at he
      clear HE1
      have HE1 := Lib.hid (show WS B b w (Option.bind (whrW hxs pxs grp axs) (addW l1)) = S from he)
      clear he
      have hwe := size_eq hwz
      clear hwz
      by_cases hhz : hxs = []
      · have he := HE1.out
        unfold whrW at he
        rw [if_pos hhz, catW_add] at he
        clear HE1
        have HE1 := Lib.hid (show WS B b w (Option.bind (picW pxs grp axs) (addW l1)) = S from he)
        clear he
        have hlen0 : hn = 0 := by have := (HT.out w (Below.refl B w)).whr.len; simp only at this; rw [← this, hhz]; rfl
        subst hlen0
        clear hhz
        have he := HE1.out
        unfold picW at he
        clear HE1
        have HE1 := Lib.hid (show WS B b w (Option.bind (catW (some [w_pick]) (catW (listW numW pxs) (grpW grp axs))) (addW l1)) = S from he)
        clear he
        go_wp2_with fail
        refine (add_c B b w1.heap.size l1 [w_pick] 1 _ (HW1.out.alloc _) HL1.out (Ws.new w1 b [w_pick] _ (rfl) hb1 _ rfl) rfl (by omega) (by intro s hs; simp only [List.mem_singleton] at hs; subst hs; decide)).mono ?_
        rintro e w11 hs
        rcases WS.yes (Wk.refl B b _) hs with ⟨rfl, h1, h2⟩ | ⟨rfl, l11, h1, h2, h3, h4⟩
        · refine ⟨rfl, ?_⟩
          rw [← HE1.out, catW_add, show (some [w_pick]).bind (addW l1) = none from h1]
          exact ⟨rfl, (HK1.out.alloc hB1 _).trans h2⟩
        · have he := HE1.out
          rw [catW_add, show (some [w_pick]).bind (addW l1) = some l11 from h1] at he
          have HE11 := Lib.hid (show WS B b w (Option.bind (catW (listW numW pxs) (grpW grp axs)) (addW l11)) = S from he)
          have HK11 := Lib.hid ((HK1.out.alloc hB1 _).trans h4)
          have HW11 := Lib.hid h2
          have HL11 := Lib.hid h3
          have HP11 := Lib.hid (h4.bk (HP1.out.alloc _) hne1 (by decide))
          have HB11 := Lib.hid (h4.bk (HB1.out.alloc _) hne2 (by decide))
          have hb11 := h2.lt
          have hB11 := h2.le
          have hp11 := HP11.out.lt
          have hv11 := HB11.out.lt
          have p11 : w11.cell? ⟨w.heap.size, 0, none⟩ = some (.pointer (some ⟨b, 0, none⟩)) := HP11.out.cell 0
          have d11_0 : w11.cell? ⟨w.heap.size + 1, 0, none⟩ = some (.string nm) := HB11.out.cell 0
          have d11_1 : w11.cell? ⟨w.heap.size + 1, 1, none⟩ = some (.string frm) := HB11.out.cell 1
          have d11_2 : w11.cell? ⟨w.heap.size + 1, 2, none⟩ = some (.string wth) := HB11.out.cell 2
          have d11_3 : w11.cell? ⟨w.heap.size + 1, 3, none⟩ = some (.int .i64 on0) := HB11.out.cell 3
          have d11_4 : w11.cell? ⟨w.heap.size + 1, 4, none⟩ = some (.int .i64 on1) := HB11.out.cell 4
          have d11_5 : w11.cell? ⟨w.heap.size + 1, 5, none⟩ = some (.slice hA 0 hc) := HB11.out.cell 5
          have d11_6 : w11.cell? ⟨w.heap.size + 1, 6, none⟩ = some (.slice pA pn pc) := HB11.out.cell 6
          have d11_7 : w11.cell? ⟨w.heap.size + 1, 7, none⟩ = some (.bool grp) := HB11.out.cell 7
          have d11_8 : w11.cell? ⟨w.heap.size + 1, 8, none⟩ = some (.slice aA an ac) := HB11.out.cell 8
          clear h1 h2 h3 h4 hs he
          have HLs := Lib.hid (list_w numW pxs B b 123 (.pointer (some ⟨w.heap.size, 0, none⟩)) (.pointer (some ⟨w.heap.size + 1, 0, none⟩)) l11 pn w11 HW11.out HL11.out (HT.out w (Below.refl B w)).pick.len (HT.out w (Below.refl B w)).pick.max (fun k a u lc ha hk hwr hlc => by
            have hu := HT.out u (HK11.out.trans hk).below
            exact pickI_w B b _ _ lc pA pn pc pxs u k a ((hk.bk HP11.out hne1 (by decide)).cell 0) ((hk.bk HB11.out hne2 (by decide)).cell 6) hu.pick.sl hu.pick.len hu.pick.max ha hwr hlc (HG.out.below (HK11.out.trans hk).below) (HO.out.pick a (List.mem_of_getElem? ha))) (fun u k => by kernel_rfl))
          go_wp2_with fail
          refine HLs.out.mono ?_
          rintro e w12 hs
          clear HLs
          rcases WS.yes (Wk.refl B b _) hs with ⟨rfl, h1, h2⟩ | ⟨rfl, l12, h1, h2, h3, h4⟩
          · refine ⟨rfl, ?_⟩
            rw [← HE11.out, catW_add, h1]
            exact ⟨rfl, HK11.out.trans h2⟩
          · have he := HE11.out
            rw [catW_add, h1] at he
            have HE12 := Lib.hid (show WS B b w (Option.bind (grpW grp axs) (addW l12)) = S from he)
            have HK12 := Lib.hid (HK11.out.trans h4)
            have HW12 := Lib.hid h2
            have HL12 := Lib.hid h3
            have HP12 := Lib.hid (h4.bk (HP11.out) hne1 (by decide))
            have HB12 := Lib.hid (h4.bk (HB11.out) hne2 (by decide))
            have hb12 := h2.lt
            have hB12 := h2.le
            have hp12 := HP12.out.lt
            have hv12 := HB12.out.lt
            have p12 : w12.cell? ⟨w.heap.size, 0, none⟩ = some (.pointer (some ⟨b, 0, none⟩)) := HP12.out.cell 0
            have d12_0 : w12.cell? ⟨w.heap.size + 1, 0, none⟩ = some (.string nm) := HB12.out.cell 0
            have d12_1 : w12.cell? ⟨w.heap.size + 1, 1, none⟩ = some (.string frm) := HB12.out.cell 1
            have d12_2 : w12.cell? ⟨w.heap.size + 1, 2, none⟩ = some (.string wth) := HB12.out.cell 2
            have d12_3 : w12.cell? ⟨w.heap.size + 1, 3, none⟩ = some (.int .i64 on0) := HB12.out.cell 3
            have d12_4 : w12.cell? ⟨w.heap.size + 1, 4, none⟩ = some (.int .i64 on1) := HB12.out.cell 4
            have d12_5 : w12.cell? ⟨w.heap.size + 1, 5, none⟩ = some (.slice hA 0 hc) := HB12.out.cell 5
            have d12_6 : w12.cell? ⟨w.heap.size + 1, 6, none⟩ = some (.slice pA pn pc) := HB12.out.cell 6
            have d12_7 : w12.cell? ⟨w.heap.size + 1, 7, none⟩ = some (.bool grp) := HB12.out.cell 7
            have d12_8 : w12.cell? ⟨w.heap.size + 1, 8, none⟩ = some (.slice aA an ac) := HB12.out.cell 8
            clear h1 h2 h3 h4 hs he
            cases grp
            · have he := HE12.out
              unfold grpW at he
              clear HE12
              have HE12 := Lib.hid (show WS B b w (some l12) = S from he)
              clear he
              go_wp2
              go_end0
              rw [← HE12.out]
              exact ⟨rfl, HW12.out, HL12.out, HK12.out⟩
            · have he := HE12.out
              unfold grpW at he
              clear HE12
              have HE12 := Lib.hid (show WS B b w (Option.bind (catW (some [w_group]) (listW agW axs)) (addW l12)) = S from he)
              clear he
              go_wp2_with fail
              refine (add_c B b w12.heap.size l12 [w_group] 1 _ (HW12.out.alloc _) HL12.out (Ws.new w12 b [w_group] _ (rfl) hb12 _ rfl) rfl (by omega) (by intro s hs; simp only [List.mem_singleton] at hs; subst hs; decide)).mono ?_
              rintro e w13 hs
              rcases WS.yes (Wk.refl B b _) hs with ⟨rfl, h1, h2⟩ | ⟨rfl, l13, h1, h2, h3, h4⟩
              · refine ⟨rfl, ?_⟩
                rw [← HE12.out, catW_add, show (some [w_group]).bind (addW l12) = none from h1]
                exact ⟨rfl, (HK12.out.alloc hB12 _).trans h2⟩
              · have he := HE12.out
                rw [catW_add, show (some [w_group]).bind (addW l12) = some l13 from h1] at he
                have HE13 := Lib.hid (show WS B b w (Option.bind (listW agW axs) (addW l13)) = S from he)
                have HK13 := Lib.hid ((HK12.out.alloc hB12 _).trans h4)
                have HW13 := Lib.hid h2
                have HL13 := Lib.hid h3
                have HP13 := Lib.hid (h4.bk (HP12.out.alloc _) hne1 (by decide))
                have HB13 := Lib.hid (h4.bk (HB12.out.alloc _) hne2 (by decide))
                have hb13 := h2.lt
                have hB13 := h2.le
                have hp13 := HP13.out.lt
                have hv13 := HB13.out.lt
                have p13 : w13.cell? ⟨w.heap.size, 0, none⟩ = some (.pointer (some ⟨b, 0, none⟩)) := HP13.out.cell 0
                have d13_0 : w13.cell? ⟨w.heap.size + 1, 0, none⟩ = some (.string nm) := HB13.out.cell 0
                have d13_1 : w13.cell? ⟨w.heap.size + 1, 1, none⟩ = some (.string frm) := HB13.out.cell 1
                have d13_2 : w13.cell? ⟨w.heap.size + 1, 2, none⟩ = some (.string wth) := HB13.out.cell 2
                have d13_3 : w13.cell? ⟨w.heap.size + 1, 3, none⟩ = some (.int .i64 on0) := HB13.out.cell 3
                have d13_4 : w13.cell? ⟨w.heap.size + 1, 4, none⟩ = some (.int .i64 on1) := HB13.out.cell 4
                have d13_5 : w13.cell? ⟨w.heap.size + 1, 5, none⟩ = some (.slice hA 0 hc) := HB13.out.cell 5
                have d13_6 : w13.cell? ⟨w.heap.size + 1, 6, none⟩ = some (.slice pA pn pc) := HB13.out.cell 6
                have d13_7 : w13.cell? ⟨w.heap.size + 1, 7, none⟩ = some (.bool true) := HB13.out.cell 7
                have d13_8 : w13.cell? ⟨w.heap.size + 1, 8, none⟩ = some (.slice aA an ac) := HB13.out.cell 8
                clear h1 h2 h3 h4 hs he
                have HLs := Lib.hid (list_w agW axs B b 125 (.pointer (some ⟨w.heap.size, 0, none⟩)) (.pointer (some ⟨w.heap.size + 1, 0, none⟩)) l13 an w13 HW13.out HL13.out (HT.out w (Below.refl B w)).aggs.len (HT.out w (Below.refl B w)).aggs.max (fun k a u lc ha hk hwr hlc => by
                  have hu := HT.out u (HK13.out.trans hk).below
                  exact aggI_w B b _ _ lc aA an ac axs u k a ((hk.bk HP13.out hne1 (by decide)).cell 0) ((hk.bk HB13.out hne2 (by decide)).cell 8) hu.aggs.sl hu.aggs.len hu.aggs.max ha hwr hlc (HG.out.below (HK13.out.trans hk).below) (HO.out.aggs a (List.mem_of_getElem? ha))) (fun u k => by kernel_rfl))
                go_wp2_with fail
                refine HLs.out.mono ?_
                rintro e w14 hs
                clear HLs
                rcases WS.yes (Wk.refl B b _) hs with ⟨rfl, h1, h2⟩ | ⟨rfl, l14, h1, h2, h3, h4⟩
                · refine ⟨rfl, ?_⟩
                  rw [← HE13.out, h1]
                  exact ⟨rfl, HK13.out.trans h2⟩
                · have he := HE13.out
                  rw [h1] at he
                  have HE14 := Lib.hid (show WS B b w (some l14) = S from he)
                  have HK14 := Lib.hid (HK13.out.trans h4)
                  have HW14 := Lib.hid h2
                  have HL14 := Lib.hid h3
                  have HP14 := Lib.hid (h4.bk (HP13.out) hne1 (by decide))
                  have HB14 := Lib.hid (h4.bk (HB13.out) hne2 (by decide))
                  have hb14 := h2.lt
                  have hB14 := h2.le
                  have hp14 := HP14.out.lt
                  have hv14 := HB14.out.lt
                  have p14 : w14.cell? ⟨w.heap.size, 0, none⟩ = some (.pointer (some ⟨b, 0, none⟩)) := HP14.out.cell 0
                  have d14_0 : w14.cell? ⟨w.heap.size + 1, 0, none⟩ = some (.string nm) := HB14.out.cell 0
                  have d14_1 : w14.cell? ⟨w.heap.size + 1, 1, none⟩ = some (.string frm) := HB14.out.cell 1
                  have d14_2 : w14.cell? ⟨w.heap.size + 1, 2, none⟩ = some (.string wth) := HB14.out.cell 2
                  have d14_3 : w14.cell? ⟨w.heap.size + 1, 3, none⟩ = some (.int .i64 on0) := HB14.out.cell 3
                  have d14_4 : w14.cell? ⟨w.heap.size + 1, 4, none⟩ = some (.int .i64 on1) := HB14.out.cell 4
                  have d14_5 : w14.cell? ⟨w.heap.size + 1, 5, none⟩ = some (.slice hA 0 hc) := HB14.out.cell 5
                  have d14_6 : w14.cell? ⟨w.heap.size + 1, 6, none⟩ = some (.slice pA pn pc) := HB14.out.cell 6
                  have d14_7 : w14.cell? ⟨w.heap.size + 1, 7, none⟩ = some (.bool true) := HB14.out.cell 7
                  have d14_8 : w14.cell? ⟨w.heap.size + 1, 8, none⟩ = some (.slice aA an ac) := HB14.out.cell 8
                  clear h1 h2 h3 h4 hs he
                  go_wp2
                  go_end0
                  rw [← HE14.out]
                  exact ⟨rfl, HW14.out, HL14.out, HK14.out⟩
      · have he := HE1.out
        unfold whrW at he
        rw [if_neg hhz] at he
        clear HE1
        have HE1 := Lib.hid (show WS B b w (Option.bind (catW (some [w_where]) (catW (some (exprW hxs)) (picW pxs grp axs))) (addW l1)) = S from he)
        clear he
        have hlen0 : hn > 0 := by have := (HT.out w (Below.refl B w)).whr.len; simp only at this; have h2 : hxs.length ≠ 0 := (by simpa using hhz); omega
        clear hhz
        go_wp2_with fail
        refine (add_c B b w1.heap.size l1 [w_where] 1 _ (HW1.out.alloc _) HL1.out (Ws.new w1 b [w_where] _ (rfl) hb1 _ rfl) rfl (by omega) (by intro s hs; simp only [List.mem_singleton] at hs; subst hs; decide)).mono ?_
        rintro e w15 hs
        rcases WS.yes (Wk.refl B b _) hs with ⟨rfl, h1, h2⟩ | ⟨rfl, l15, h1, h2, h3, h4⟩
        · refine ⟨rfl, ?_⟩
          rw [← HE1.out, catW_add, show (some [w_where]).bind (addW l1) = none from h1]
          exact ⟨rfl, (HK1.out.alloc hB1 _).trans h2⟩
        · have he := HE1.out
          rw [catW_add, show (some [w_where]).bind (addW l1) = some l15 from h1] at he
          have HE15 := Lib.hid (show WS B b w (Option.bind (catW (some (exprW hxs)) (picW pxs grp axs)) (addW l15)) = S from he)
          have HK15 := Lib.hid ((HK1.out.alloc hB1 _).trans h4)
          have HW15 := Lib.hid h2
          have HL15 := Lib.hid h3
          have HP15 := Lib.hid (h4.bk (HP1.out.alloc _) hne1 (by decide))
          have HB15 := Lib.hid (h4.bk (HB1.out.alloc _) hne2 (by decide))
          have hb15 := h2.lt
          have hB15 := h2.le
          have hp15 := HP15.out.lt
          have hv15 := HB15.out.lt
          have p15 : w15.cell? ⟨w.heap.size, 0, none⟩ = some (.pointer (some ⟨b, 0, none⟩)) := HP15.out.cell 0
          have d15_0 : w15.cell? ⟨w.heap.size + 1, 0, none⟩ = some (.string nm) := HB15.out.cell 0
          have d15_1 : w15.cell? ⟨w.heap.size + 1, 1, none⟩ = some (.string frm) := HB15.out.cell 1
          have d15_2 : w15.cell? ⟨w.heap.size + 1, 2, none⟩ = some (.string wth) := HB15.out.cell 2
          have d15_3 : w15.cell? ⟨w.heap.size + 1, 3, none⟩ = some (.int .i64 on0) := HB15.out.cell 3
          have d15_4 : w15.cell? ⟨w.heap.size + 1, 4, none⟩ = some (.int .i64 on1) := HB15.out.cell 4
          have d15_5 : w15.cell? ⟨w.heap.size + 1, 5, none⟩ = some (.slice hA hn hc) := HB15.out.cell 5
          have d15_6 : w15.cell? ⟨w.heap.size + 1, 6, none⟩ = some (.slice pA pn pc) := HB15.out.cell 6
          have d15_7 : w15.cell? ⟨w.heap.size + 1, 7, none⟩ = some (.bool grp) := HB15.out.cell 7
          have d15_8 : w15.cell? ⟨w.heap.size + 1, 8, none⟩ = some (.slice aA an ac) := HB15.out.cell 8
          clear h1 h2 h3 h4 hs he
          go_wp2_with fail
          refine (expr_w B b l15 hxs hA hn hc w15 HW15.out HL15.out (HG.out.below HK15.out.below) HO.out.whr (HT.out _ HK15.out.below).whr.len (HT.out _ HK15.out.below).whr.max (fun u hu => (HT.out u (HK15.out.below.trans hu)).whr.sl)).mono ?_
          rintro e w16 hs
          rcases WS.yes (Wk.refl B b _) hs with ⟨rfl, h1, h2⟩ | ⟨rfl, l16, h1, h2, h3, h4⟩
          · refine ⟨rfl, ?_⟩
            rw [← HE15.out, catW_add, show (some (exprW hxs)).bind (addW l15) = none from h1]
            exact ⟨rfl, HK15.out.trans h2⟩
          · have he := HE15.out
            rw [catW_add, show (some (exprW hxs)).bind (addW l15) = some l16 from h1] at he
            have HE16 := Lib.hid (show WS B b w (Option.bind (picW pxs grp axs) (addW l16)) = S from he)
            have HK16 := Lib.hid (HK15.out.trans h4)
            have HW16 := Lib.hid h2
            have HL16 := Lib.hid h3
            have HP16 := Lib.hid (h4.bk (HP15.out) hne1 (by decide))
            have HB16 := Lib.hid (h4.bk (HB15.out) hne2 (by decide))
            have hb16 := h2.lt
            have hB16 := h2.le
            have hp16 := HP16.out.lt
            have hv16 := HB16.out.lt
            have p16 : w16.cell? ⟨w.heap.size, 0, none⟩ = some (.pointer (some ⟨b, 0, none⟩)) := HP16.out.cell 0
            have d16_0 : w16.cell? ⟨w.heap.size + 1, 0, none⟩ = some (.string nm) := HB16.out.cell 0
            have d16_1 : w16.cell? ⟨w.heap.size + 1, 1, none⟩ = some (.string frm) := HB16.out.cell 1
            have d16_2 : w16.cell? ⟨w.heap.size + 1, 2, none⟩ = some (.string wth) := HB16.out.cell 2
            have d16_3 : w16.cell? ⟨w.heap.size + 1, 3, none⟩ = some (.int .i64 on0) := HB16.out.cell 3
            have d16_4 : w16.cell? ⟨w.heap.size + 1, 4, none⟩ = some (.int .i64 on1) := HB16.out.cell 4
            have d16_5 : w16.cell? ⟨w.heap.size + 1, 5, none⟩ = some (.slice hA hn hc) := HB16.out.cell 5
            have d16_6 : w16.cell? ⟨w.heap.size + 1, 6, none⟩ = some (.slice pA pn pc) := HB16.out.cell 6
            have d16_7 : w16.cell? ⟨w.heap.size + 1, 7, none⟩ = some (.bool grp) := HB16.out.cell 7
            have d16_8 : w16.cell? ⟨w.heap.size + 1, 8, none⟩ = some (.slice aA an ac) := HB16.out.cell 8
            clear h1 h2 h3 h4 hs he
            have he := HE16.out
            unfold picW at he
            clear HE16
            have HE16 := Lib.hid (show WS B b w (Option.bind (catW (some [w_pick]) (catW (listW numW pxs) (grpW grp axs))) (addW l16)) = S from he)
            clear he
            go_wp2_with fail
            refine (add_c B b w16.heap.size l16 [w_pick] 1 _ (HW16.out.alloc _) HL16.out (Ws.new w16 b [w_pick] _ (rfl) hb16 _ rfl) rfl (by omega) (by intro s hs; simp only [List.mem_singleton] at hs; subst hs; decide)).mono ?_
            rintro e w17 hs
            rcases WS.yes (Wk.refl B b _) hs with ⟨rfl, h1, h2⟩ | ⟨rfl, l17, h1, h2, h3, h4⟩
            · refine ⟨rfl, ?_⟩
              rw [← HE16.out, catW_add, show (some [w_pick]).bind (addW l16) = none from h1]
              exact ⟨rfl, (HK16.out.alloc hB16 _).trans h2⟩
            · have he := HE16.out
              rw [catW_add, show (some [w_pick]).bind (addW l16) = some l17 from h1] at he
              have HE17 := Lib.hid (show WS B b w (Option.bind (catW (listW numW pxs) (grpW grp axs)) (addW l17)) = S from he)
              have HK17 := Lib.hid ((HK16.out.alloc hB16 _).trans h4)
              have HW17 := Lib.hid h2
              have HL17 := Lib.hid h3
              have HP17 := Lib.hid (h4.bk (HP16.out.alloc _) hne1 (by decide))
              have HB17 := Lib.hid (h4.bk (HB16.out.alloc _) hne2 (by decide))
              have hb17 := h2.lt
              have hB17 := h2.le
              have hp17 := HP17.out.lt
              have hv17 := HB17.out.lt
              have p17 : w17.cell? ⟨w.heap.size, 0, none⟩ = some (.pointer (some ⟨b, 0, none⟩)) := HP17.out.cell 0
              have d17_0 : w17.cell? ⟨w.heap.size + 1, 0, none⟩ = some (.string nm) := HB17.out.cell 0
              have d17_1 : w17.cell? ⟨w.heap.size + 1, 1, none⟩ = some (.string frm) := HB17.out.cell 1
              have d17_2 : w17.cell? ⟨w.heap.size + 1, 2, none⟩ = some (.string wth) := HB17.out.cell 2
              have d17_3 : w17.cell? ⟨w.heap.size + 1, 3, none⟩ = some (.int .i64 on0) := HB17.out.cell 3
              have d17_4 : w17.cell? ⟨w.heap.size + 1, 4, none⟩ = some (.int .i64 on1) := HB17.out.cell 4
              have d17_5 : w17.cell? ⟨w.heap.size + 1, 5, none⟩ = some (.slice hA hn hc) := HB17.out.cell 5
              have d17_6 : w17.cell? ⟨w.heap.size + 1, 6, none⟩ = some (.slice pA pn pc) := HB17.out.cell 6
              have d17_7 : w17.cell? ⟨w.heap.size + 1, 7, none⟩ = some (.bool grp) := HB17.out.cell 7
              have d17_8 : w17.cell? ⟨w.heap.size + 1, 8, none⟩ = some (.slice aA an ac) := HB17.out.cell 8
              clear h1 h2 h3 h4 hs he
              have HLs := Lib.hid (list_w numW pxs B b 123 (.pointer (some ⟨w.heap.size, 0, none⟩)) (.pointer (some ⟨w.heap.size + 1, 0, none⟩)) l17 pn w17 HW17.out HL17.out (HT.out w (Below.refl B w)).pick.len (HT.out w (Below.refl B w)).pick.max (fun k a u lc ha hk hwr hlc => by
                have hu := HT.out u (HK17.out.trans hk).below
                exact pickI_w B b _ _ lc pA pn pc pxs u k a ((hk.bk HP17.out hne1 (by decide)).cell 0) ((hk.bk HB17.out hne2 (by decide)).cell 6) hu.pick.sl hu.pick.len hu.pick.max ha hwr hlc (HG.out.below (HK17.out.trans hk).below) (HO.out.pick a (List.mem_of_getElem? ha))) (fun u k => by kernel_rfl))
              go_wp2_with fail
              refine HLs.out.mono ?_
              rintro e w18 hs
              clear HLs
              rcases WS.yes (Wk.refl B b _) hs with ⟨rfl, h1, h2⟩ | ⟨rfl, l18, h1, h2, h3, h4⟩
              · refine ⟨rfl, ?_⟩
                rw [← HE17.out, catW_add, h1]
                exact ⟨rfl, HK17.out.trans h2⟩
              · have he := HE17.out
                rw [catW_add, h1] at he
                have HE18 := Lib.hid (show WS B b w (Option.bind (grpW grp axs) (addW l18)) = S from he)
                have HK18 := Lib.hid (HK17.out.trans h4)
                have HW18 := Lib.hid h2
                have HL18 := Lib.hid h3
                have HP18 := Lib.hid (h4.bk (HP17.out) hne1 (by decide))
                have HB18 := Lib.hid (h4.bk (HB17.out) hne2 (by decide))
                have hb18 := h2.lt
                have hB18 := h2.le
                have hp18 := HP18.out.lt
                have hv18 := HB18.out.lt
                have p18 : w18.cell? ⟨w.heap.size, 0, none⟩ = some (.pointer (some ⟨b, 0, none⟩)) := HP18.out.cell 0
                have d18_0 : w18.cell? ⟨w.heap.size + 1, 0, none⟩ = some (.string nm) := HB18.out.cell 0
                have d18_1 : w18.cell? ⟨w.heap.size + 1, 1, none⟩ = some (.string frm) := HB18.out.cell 1
                have d18_2 : w18.cell? ⟨w.heap.size + 1, 2, none⟩ = some (.string wth) := HB18.out.cell 2
                have d18_3 : w18.cell? ⟨w.heap.size + 1, 3, none⟩ = some (.int .i64 on0) := HB18.out.cell 3
                have d18_4 : w18.cell? ⟨w.heap.size + 1, 4, none⟩ = some (.int .i64 on1) := HB18.out.cell 4
                have d18_5 : w18.cell? ⟨w.heap.size + 1, 5, none⟩ = some (.slice hA hn hc) := HB18.out.cell 5
                have d18_6 : w18.cell? ⟨w.heap.size + 1, 6, none⟩ = some (.slice pA pn pc) := HB18.out.cell 6
                have d18_7 : w18.cell? ⟨w.heap.size + 1, 7, none⟩ = some (.bool grp) := HB18.out.cell 7
                have d18_8 : w18.cell? ⟨w.heap.size + 1, 8, none⟩ = some (.slice aA an ac) := HB18.out.cell 8
                clear h1 h2 h3 h4 hs he
                cases grp
                · have he := HE18.out
                  unfold grpW at he
                  clear HE18
                  have HE18 := Lib.hid (show WS B b w (some l18) = S from he)
                  clear he
                  go_wp2
                  go_end0
                  rw [← HE18.out]
                  exact ⟨rfl, HW18.out, HL18.out, HK18.out⟩
                · have he := HE18.out
                  unfold grpW at he
                  clear HE18
                  have HE18 := Lib.hid (show WS B b w (Option.bind (catW (some [w_group]) (listW agW axs)) (addW l18)) = S from he)
                  clear he
                  go_wp2_with fail
                  refine (add_c B b w18.heap.size l18 [w_group] 1 _ (HW18.out.alloc _) HL18.out (Ws.new w18 b [w_group] _ (rfl) hb18 _ rfl) rfl (by omega) (by intro s hs; simp only [List.mem_singleton] at hs; subst hs; decide)).mono ?_
                  rintro e w19 hs
                  rcases WS.yes (Wk.refl B b _) hs with ⟨rfl, h1, h2⟩ | ⟨rfl, l19, h1, h2, h3, h4⟩
                  · refine ⟨rfl, ?_⟩
                    rw [← HE18.out, catW_add, show (some [w_group]).bind (addW l18) = none from h1]
                    exact ⟨rfl, (HK18.out.alloc hB18 _).trans h2⟩
                  · have he := HE18.out
                    rw [catW_add, show (some [w_group]).bind (addW l18) = some l19 from h1] at he
                    have HE19 := Lib.hid (show WS B b w (Option.bind (listW agW axs) (addW l19)) = S from he)
                    have HK19 := Lib.hid ((HK18.out.alloc hB18 _).trans h4)
                    have HW19 := Lib.hid h2
                    have HL19 := Lib.hid h3
                    have HP19 := Lib.hid (h4.bk (HP18.out.alloc _) hne1 (by decide))
                    have HB19 := Lib.hid (h4.bk (HB18.out.alloc _) hne2 (by decide))
                    have hb19 := h2.lt
                    have hB19 := h2.le
                    have hp19 := HP19.out.lt
                    have hv19 := HB19.out.lt
                    have p19 : w19.cell? ⟨w.heap.size, 0, none⟩ = some (.pointer (some ⟨b, 0, none⟩)) := HP19.out.cell 0
                    have d19_0 : w19.cell? ⟨w.heap.size + 1, 0, none⟩ = some (.string nm) := HB19.out.cell 0
                    have d19_1 : w19.cell? ⟨w.heap.size + 1, 1, none⟩ = some (.string frm) := HB19.out.cell 1
                    have d19_2 : w19.cell? ⟨w.heap.size + 1, 2, none⟩ = some (.string wth) := HB19.out.cell 2
                    have d19_3 : w19.cell? ⟨w.heap.size + 1, 3, none⟩ = some (.int .i64 on0) := HB19.out.cell 3
                    have d19_4 : w19.cell? ⟨w.heap.size + 1, 4, none⟩ = some (.int .i64 on1) := HB19.out.cell 4
                    have d19_5 : w19.cell? ⟨w.heap.size + 1, 5, none⟩ = some (.slice hA hn hc) := HB19.out.cell 5
                    have d19_6 : w19.cell? ⟨w.heap.size + 1, 6, none⟩ = some (.slice pA pn pc) := HB19.out.cell 6
                    have d19_7 : w19.cell? ⟨w.heap.size + 1, 7, none⟩ = some (.bool true) := HB19.out.cell 7
                    have d19_8 : w19.cell? ⟨w.heap.size + 1, 8, none⟩ = some (.slice aA an ac) := HB19.out.cell 8
                    clear h1 h2 h3 h4 hs he
                    have HLs := Lib.hid (list_w agW axs B b 125 (.pointer (some ⟨w.heap.size, 0, none⟩)) (.pointer (some ⟨w.heap.size + 1, 0, none⟩)) l19 an w19 HW19.out HL19.out (HT.out w (Below.refl B w)).aggs.len (HT.out w (Below.refl B w)).aggs.max (fun k a u lc ha hk hwr hlc => by
                      have hu := HT.out u (HK19.out.trans hk).below
                      exact aggI_w B b _ _ lc aA an ac axs u k a ((hk.bk HP19.out hne1 (by decide)).cell 0) ((hk.bk HB19.out hne2 (by decide)).cell 8) hu.aggs.sl hu.aggs.len hu.aggs.max ha hwr hlc (HG.out.below (HK19.out.trans hk).below) (HO.out.aggs a (List.mem_of_getElem? ha))) (fun u k => by kernel_rfl))
                    go_wp2_with fail
                    refine HLs.out.mono ?_
                    rintro e w20 hs
                    clear HLs
                    rcases WS.yes (Wk.refl B b _) hs with ⟨rfl, h1, h2⟩ | ⟨rfl, l20, h1, h2, h3, h4⟩
                    · refine ⟨rfl, ?_⟩
                      rw [← HE19.out, h1]
                      exact ⟨rfl, HK19.out.trans h2⟩
                    · have he := HE19.out
                      rw [h1] at he
                      have HE20 := Lib.hid (show WS B b w (some l20) = S from he)
                      have HK20 := Lib.hid (HK19.out.trans h4)
                      have HW20 := Lib.hid h2
                      have HL20 := Lib.hid h3
                      have HP20 := Lib.hid (h4.bk (HP19.out) hne1 (by decide))
                      have HB20 := Lib.hid (h4.bk (HB19.out) hne2 (by decide))
                      have hb20 := h2.lt
                      have hB20 := h2.le
                      have hp20 := HP20.out.lt
                      have hv20 := HB20.out.lt
                      have p20 : w20.cell? ⟨w.heap.size, 0, none⟩ = some (.pointer (some ⟨b, 0, none⟩)) := HP20.out.cell 0
                      have d20_0 : w20.cell? ⟨w.heap.size + 1, 0, none⟩ = some (.string nm) := HB20.out.cell 0
                      have d20_1 : w20.cell? ⟨w.heap.size + 1, 1, none⟩ = some (.string frm) := HB20.out.cell 1
                      have d20_2 : w20.cell? ⟨w.heap.size + 1, 2, none⟩ = some (.string wth) := HB20.out.cell 2
                      have d20_3 : w20.cell? ⟨w.heap.size + 1, 3, none⟩ = some (.int .i64 on0) := HB20.out.cell 3
                      have d20_4 : w20.cell? ⟨w.heap.size + 1, 4, none⟩ = some (.int .i64 on1) := HB20.out.cell 4
                      have d20_5 : w20.cell? ⟨w.heap.size + 1, 5, none⟩ = some (.slice hA hn hc) := HB20.out.cell 5
                      have d20_6 : w20.cell? ⟨w.heap.size + 1, 6, none⟩ = some (.slice pA pn pc) := HB20.out.cell 6
                      have d20_7 : w20.cell? ⟨w.heap.size + 1, 7, none⟩ = some (.bool true) := HB20.out.cell 7
                      have d20_8 : w20.cell? ⟨w.heap.size + 1, 8, none⟩ = some (.slice aA an ac) := HB20.out.cell 8
                      clear h1 h2 h3 h4 hs he
                      go_wp2
                      go_end0
                      rw [← HE20.out]
                      exact ⟨rfl, HW20.out, HL20.out, HK20.out⟩
    · have he := HE1.out
      unfold wthW at he
      rw [if_neg hwz] at he
      clear HE1
      have HE1 := Lib.hid (show WS B b w (Option.bind (catW (some [w_join, wth.data.toList, w_on, Lib.itoa on0, s_eq, Lib.itoa on1]) (whrW hxs pxs grp axs)) (addW l1)) = S from he)
      clear he
      have hwe := size_ne hwz
      clear hwz
      obtain ⟨u0, hu0⟩ : ∃ u0 : ByteArray, (⟨(Lib.itoa on0).toArray⟩ : ByteArray) = u0 := ⟨_, rfl⟩
      obtain ⟨u1, hu1⟩ : ∃ u1 : ByteArray, (⟨(Lib.itoa on1).toArray⟩ : ByteArray) = u1 := ⟨_, rfl⟩
      have HI0 := Tryz.strconv_Itoa on0 HO.out.on0.1 HO.out.on0.2 w1.drew (HG.out.below (HK1.out.below.drew)).gl.gl.tab
      have HI1 := fun (u : World) (hu : Below B w u) => Tryz.strconv_Itoa on1 HO.out.on1.1 HO.out.on1.2 u (HG.out.below hu).gl.gl.tab
      rw [hu0] at HI0
      simp only [hu1] at HI1
      have HI0 := Lib.hid HI0
      have HI1 := Lib.hid HI1
      have Hu0 := Lib.hid (show ba (Lib.itoa on0) = u0 from hu0)
      have Hu1 := Lib.hid (show ba (Lib.itoa on1) = u1 from hu1)
      have Hl0 := Lib.hid (itoa_len on0 HO.out.on0)
      have Hl1 := Lib.hid (itoa_len on1 HO.out.on1)
      have HSt : Hid (∀ w', Below w1.heap.size w1 w' → (w'.cell? ⟨w.heap.size, 0, none⟩ = some (.pointer (some ⟨b, 0, none⟩)) ∧ w'.cell? ⟨w.heap.size + 1, 2, none⟩ = some (.string wth) ∧ w'.cell? ⟨w.heap.size + 1, 3, none⟩ = some (.int .i64 on0) ∧ w'.cell? ⟨w.heap.size + 1, 4, none⟩ = some (.int .i64 on1))) := Lib.hid fun w' hb => ⟨(hb.cell (p := ⟨w.heap.size, 0, none⟩) hp1).trans p1, (hb.cell (p := ⟨w.heap.size + 1, 2, none⟩) hv1).trans d1_2, (hb.cell (p := ⟨w.heap.size + 1, 3, none⟩) hv1).trans d1_3, (hb.cell (p := ⟨w.heap.size + 1, 4, none⟩) hv1).trans d1_4⟩
      clear hu0 hu1
      go_wp2_with fail
      go_region_held2 (fun w' => (w'.cell? ⟨w.heap.size, 0, none⟩ = some (.pointer (some ⟨b, 0, none⟩)) ∧ w'.cell? ⟨w.heap.size + 1, 2, none⟩ = some (.string wth) ∧ w'.cell? ⟨w.heap.size + 1, 3, none⟩ = some (.int .i64 on0) ∧ w'.cell? ⟨w.heap.size + 1, 4, none⟩ = some (.int .i64 on1)))
        (first
          | exact HSt.out _ HbS.out
          | go_keep)
        (first
          | (go_at_call 104
             with_reducible refine HI0.out.mono ?_
             rintro e w4 ⟨rfl, kk, os, hw4⟩
             have hb4 : Below w1.heap.size w1 w4 := ((Below.refl w1.heap.size w1).drew).trans (show Below w1.drew.heap.size w1.drew w4 by rw [hw4]; exact below_grow w1.drew kk os)
             have HbS := Lib.hid hb4
             have HI1b := Lib.hid (HI1.out w4 (HK1.out.below.trans (hb4.mono hB1)))
             clear hw4 hb4 HI0)
          | (go_at_call 104
             with_reducible refine HI1b.out.mono ?_
             rintro e w5 ⟨rfl, kk, os, hw5⟩
             have hb5 : Below w1.heap.size w1 w5 := HbS.out.trans ((show Below w4.heap.size w4 w5 by rw [hw5]; exact below_grow w4 kk os).mono HbS.out.size)
             clear HbS HI1b
             have HbS := Lib.hid hb5
             have hz5 := hb5.size
             have HW5 := Lib.hid (HW1.out.after hb5)
             have HK5 := Lib.hid (HK1.out.then hb5 (Nat.le_refl _) hB1)
             have HbT := Lib.hid (hb5.alloc hz5 (.cells #[.string ⟨#[106, 111, 105, 110]⟩, .string wth, .string ⟨#[111, 110]⟩, .string u0, .string ⟨#[61]⟩, .string u1] 9))
             clear hw5 hb5)
          | (go_at_call 118
             refine (add_c B b w5.heap.size l1 [w_join, wth.data.toList, w_on, Lib.itoa on0, s_eq, Lib.itoa on1] 6 _ (HW5.out.alloc _) HL1.out (Ws.new w5 b [w_join, wth.data.toList, w_on, Lib.itoa on0, s_eq, Lib.itoa on1] _ (by rw [← Hu0.out, ← Hu1.out, List.map_cons, List.map_cons, ba_back]; rfl) (by omega) _ rfl) rfl (by omega) (by intro s hs; simp only [List.mem_cons, List.not_mem_nil, or_false] at hs; have h0 := Hl0.out; have h1 := Hl1.out; rcases hs with rfl | rfl | rfl | rfl | rfl | rfl; decide; exact HO.out.wth; decide; omega; decide; omega)).mono ?_
             rintro e w2 hs
             rcases WS.yes (Wk.refl B b _) hs with ⟨rfl, h1, h2⟩ | ⟨rfl, l2, h1, h2, h3, h4⟩
             · refine ⟨rfl, ?_⟩
               rw [← HE1.out, catW_add, show (some [w_join, wth.data.toList, w_on, Lib.itoa on0, s_eq, Lib.itoa on1]).bind (addW l1) = none from h1]
               exact ⟨rfl, (HK5.out.alloc (by omega) _).trans h2⟩
             have he := HE1.out
             rw [catW_add, show (some [w_join, wth.data.toList, w_on, Lib.itoa on0, s_eq, Lib.itoa on1]).bind (addW l1) = some l2 from h1] at he
             have HE2 := Lib.hid (show WS B b w (Option.bind (whrW hxs pxs grp axs) (addW l2)) = S from he)
             have HK2 := Lib.hid ((HK5.out.alloc (by omega) _).trans h4)
             have HW2 := Lib.hid h2
             have HL2 := Lib.hid h3
             have HP2 := Lib.hid (h4.bk ((HP1.out.after HbS.out hp1).alloc _) hne1 (by decide))
             have HB2 := Lib.hid (h4.bk ((HB1.out.after HbS.out hv1).alloc _) hne2 (by decide))
             have hb2 := h2.lt
             have hB2 := h2.le
             have hp2 := HP2.out.lt
             have hv2 := HB2.out.lt
             have p2 : w2.cell? ⟨w.heap.size, 0, none⟩ = some (.pointer (some ⟨b, 0, none⟩)) := HP2.out.cell 0
             have d2_0 : w2.cell? ⟨w.heap.size + 1, 0, none⟩ = some (.string nm) := HB2.out.cell 0
             have d2_1 : w2.cell? ⟨w.heap.size + 1, 1, none⟩ = some (.string frm) := HB2.out.cell 1
             have d2_2 : w2.cell? ⟨w.heap.size + 1, 2, none⟩ = some (.string wth) := HB2.out.cell 2
             have d2_3 : w2.cell? ⟨w.heap.size + 1, 3, none⟩ = some (.int .i64 on0) := HB2.out.cell 3
             have d2_4 : w2.cell? ⟨w.heap.size + 1, 4, none⟩ = some (.int .i64 on1) := HB2.out.cell 4
             have d2_5 : w2.cell? ⟨w.heap.size + 1, 5, none⟩ = some (.slice hA hn hc) := HB2.out.cell 5
             have d2_6 : w2.cell? ⟨w.heap.size + 1, 6, none⟩ = some (.slice pA pn pc) := HB2.out.cell 6
             have d2_7 : w2.cell? ⟨w.heap.size + 1, 7, none⟩ = some (.bool grp) := HB2.out.cell 7
             have d2_8 : w2.cell? ⟨w.heap.size + 1, 8, none⟩ = some (.slice aA an ac) := HB2.out.cell 8
             clear h1 h2 h3 h4 hs he))
      all_goals
        clear HI0 HI1 HSt
        by_cases hhz : hxs = []
        · have he := HE2.out
          unfold whrW at he
          rw [if_pos hhz, catW_add] at he
          clear HE2
          have HE2 := Lib.hid (show WS B b w (Option.bind (picW pxs grp axs) (addW l2)) = S from he)
          clear he
          have hlen0 : hn = 0 := by have := (HT.out w (Below.refl B w)).whr.len; simp only at this; rw [← this, hhz]; rfl
          subst hlen0
          clear hhz
          have he := HE2.out
          unfold picW at he
          clear HE2
          have HE2 := Lib.hid (show WS B b w (Option.bind (catW (some [w_pick]) (catW (listW numW pxs) (grpW grp axs))) (addW l2)) = S from he)
          clear he
          go_wp2_with fail
          refine (add_c B b w2.heap.size l2 [w_pick] 1 _ (HW2.out.alloc _) HL2.out (Ws.new w2 b [w_pick] _ (rfl) hb2 _ rfl) rfl (by omega) (by intro s hs; simp only [List.mem_singleton] at hs; subst hs; decide)).mono ?_
          rintro e w21 hs
          rcases WS.yes (Wk.refl B b _) hs with ⟨rfl, h1, h2⟩ | ⟨rfl, l21, h1, h2, h3, h4⟩
          · refine ⟨rfl, ?_⟩
            rw [← HE2.out, catW_add, show (some [w_pick]).bind (addW l2) = none from h1]
            exact ⟨rfl, (HK2.out.alloc hB2 _).trans h2⟩
          · have he := HE2.out
            rw [catW_add, show (some [w_pick]).bind (addW l2) = some l21 from h1] at he
            have HE21 := Lib.hid (show WS B b w (Option.bind (catW (listW numW pxs) (grpW grp axs)) (addW l21)) = S from he)
            have HK21 := Lib.hid ((HK2.out.alloc hB2 _).trans h4)
            have HW21 := Lib.hid h2
            have HL21 := Lib.hid h3
            have HP21 := Lib.hid (h4.bk (HP2.out.alloc _) hne1 (by decide))
            have HB21 := Lib.hid (h4.bk (HB2.out.alloc _) hne2 (by decide))
            have hb21 := h2.lt
            have hB21 := h2.le
            have hp21 := HP21.out.lt
            have hv21 := HB21.out.lt
            have p21 : w21.cell? ⟨w.heap.size, 0, none⟩ = some (.pointer (some ⟨b, 0, none⟩)) := HP21.out.cell 0
            have d21_0 : w21.cell? ⟨w.heap.size + 1, 0, none⟩ = some (.string nm) := HB21.out.cell 0
            have d21_1 : w21.cell? ⟨w.heap.size + 1, 1, none⟩ = some (.string frm) := HB21.out.cell 1
            have d21_2 : w21.cell? ⟨w.heap.size + 1, 2, none⟩ = some (.string wth) := HB21.out.cell 2
            have d21_3 : w21.cell? ⟨w.heap.size + 1, 3, none⟩ = some (.int .i64 on0) := HB21.out.cell 3
            have d21_4 : w21.cell? ⟨w.heap.size + 1, 4, none⟩ = some (.int .i64 on1) := HB21.out.cell 4
            have d21_5 : w21.cell? ⟨w.heap.size + 1, 5, none⟩ = some (.slice hA 0 hc) := HB21.out.cell 5
            have d21_6 : w21.cell? ⟨w.heap.size + 1, 6, none⟩ = some (.slice pA pn pc) := HB21.out.cell 6
            have d21_7 : w21.cell? ⟨w.heap.size + 1, 7, none⟩ = some (.bool grp) := HB21.out.cell 7
            have d21_8 : w21.cell? ⟨w.heap.size + 1, 8, none⟩ = some (.slice aA an ac) := HB21.out.cell 8
            clear h1 h2 h3 h4 hs he
            have HLs := Lib.hid (list_w numW pxs B b 123 (.pointer (some ⟨w.heap.size, 0, none⟩)) (.pointer (some ⟨w.heap.size + 1, 0, none⟩)) l21 pn w21 HW21.out HL21.out (HT.out w (Below.refl B w)).pick.len (HT.out w (Below.refl B w)).pick.max (fun k a u lc ha hk hwr hlc => by
              have hu := HT.out u (HK21.out.trans hk).below
              exact pickI_w B b _ _ lc pA pn pc pxs u k a ((hk.bk HP21.out hne1 (by decide)).cell 0) ((hk.bk HB21.out hne2 (by decide)).cell 6) hu.pick.sl hu.pick.len hu.pick.max ha hwr hlc (HG.out.below (HK21.out.trans hk).below) (HO.out.pick a (List.mem_of_getElem? ha))) (fun u k => by kernel_rfl))
            go_wp2_with fail
            refine HLs.out.mono ?_
            rintro e w22 hs
            clear HLs
            rcases WS.yes (Wk.refl B b _) hs with ⟨rfl, h1, h2⟩ | ⟨rfl, l22, h1, h2, h3, h4⟩
            · refine ⟨rfl, ?_⟩
              rw [← HE21.out, catW_add, h1]
              exact ⟨rfl, HK21.out.trans h2⟩
            · have he := HE21.out
              rw [catW_add, h1] at he
              have HE22 := Lib.hid (show WS B b w (Option.bind (grpW grp axs) (addW l22)) = S from he)
              have HK22 := Lib.hid (HK21.out.trans h4)
              have HW22 := Lib.hid h2
              have HL22 := Lib.hid h3
              have HP22 := Lib.hid (h4.bk (HP21.out) hne1 (by decide))
              have HB22 := Lib.hid (h4.bk (HB21.out) hne2 (by decide))
              have hb22 := h2.lt
              have hB22 := h2.le
              have hp22 := HP22.out.lt
              have hv22 := HB22.out.lt
              have p22 : w22.cell? ⟨w.heap.size, 0, none⟩ = some (.pointer (some ⟨b, 0, none⟩)) := HP22.out.cell 0
              have d22_0 : w22.cell? ⟨w.heap.size + 1, 0, none⟩ = some (.string nm) := HB22.out.cell 0
              have d22_1 : w22.cell? ⟨w.heap.size + 1, 1, none⟩ = some (.string frm) := HB22.out.cell 1
              have d22_2 : w22.cell? ⟨w.heap.size + 1, 2, none⟩ = some (.string wth) := HB22.out.cell 2
              have d22_3 : w22.cell? ⟨w.heap.size + 1, 3, none⟩ = some (.int .i64 on0) := HB22.out.cell 3
              have d22_4 : w22.cell? ⟨w.heap.size + 1, 4, none⟩ = some (.int .i64 on1) := HB22.out.cell 4
              have d22_5 : w22.cell? ⟨w.heap.size + 1, 5, none⟩ = some (.slice hA 0 hc) := HB22.out.cell 5
              have d22_6 : w22.cell? ⟨w.heap.size + 1, 6, none⟩ = some (.slice pA pn pc) := HB22.out.cell 6
              have d22_7 : w22.cell? ⟨w.heap.size + 1, 7, none⟩ = some (.bool grp) := HB22.out.cell 7
              have d22_8 : w22.cell? ⟨w.heap.size + 1, 8, none⟩ = some (.slice aA an ac) := HB22.out.cell 8
              clear h1 h2 h3 h4 hs he
              cases grp
              · have he := HE22.out
                unfold grpW at he
                clear HE22
                have HE22 := Lib.hid (show WS B b w (some l22) = S from he)
                clear he
                go_wp2
                go_end0
                rw [← HE22.out]
                exact ⟨rfl, HW22.out, HL22.out, HK22.out⟩
              · have he := HE22.out
                unfold grpW at he
                clear HE22
                have HE22 := Lib.hid (show WS B b w (Option.bind (catW (some [w_group]) (listW agW axs)) (addW l22)) = S from he)
                clear he
                go_wp2_with fail
                refine (add_c B b w22.heap.size l22 [w_group] 1 _ (HW22.out.alloc _) HL22.out (Ws.new w22 b [w_group] _ (rfl) hb22 _ rfl) rfl (by omega) (by intro s hs; simp only [List.mem_singleton] at hs; subst hs; decide)).mono ?_
                rintro e w23 hs
                rcases WS.yes (Wk.refl B b _) hs with ⟨rfl, h1, h2⟩ | ⟨rfl, l23, h1, h2, h3, h4⟩
                · refine ⟨rfl, ?_⟩
                  rw [← HE22.out, catW_add, show (some [w_group]).bind (addW l22) = none from h1]
                  exact ⟨rfl, (HK22.out.alloc hB22 _).trans h2⟩
                · have he := HE22.out
                  rw [catW_add, show (some [w_group]).bind (addW l22) = some l23 from h1] at he
                  have HE23 := Lib.hid (show WS B b w (Option.bind (listW agW axs) (addW l23)) = S from he)
                  have HK23 := Lib.hid ((HK22.out.alloc hB22 _).trans h4)
                  have HW23 := Lib.hid h2
                  have HL23 := Lib.hid h3
                  have HP23 := Lib.hid (h4.bk (HP22.out.alloc _) hne1 (by decide))
                  have HB23 := Lib.hid (h4.bk (HB22.out.alloc _) hne2 (by decide))
                  have hb23 := h2.lt
                  have hB23 := h2.le
                  have hp23 := HP23.out.lt
                  have hv23 := HB23.out.lt
                  have p23 : w23.cell? ⟨w.heap.size, 0, none⟩ = some (.pointer (some ⟨b, 0, none⟩)) := HP23.out.cell 0
                  have d23_0 : w23.cell? ⟨w.heap.size + 1, 0, none⟩ = some (.string nm) := HB23.out.cell 0
                  have d23_1 : w23.cell? ⟨w.heap.size + 1, 1, none⟩ = some (.string frm) := HB23.out.cell 1
                  have d23_2 : w23.cell? ⟨w.heap.size + 1, 2, none⟩ = some (.string wth) := HB23.out.cell 2
                  have d23_3 : w23.cell? ⟨w.heap.size + 1, 3, none⟩ = some (.int .i64 on0) := HB23.out.cell 3
                  have d23_4 : w23.cell? ⟨w.heap.size + 1, 4, none⟩ = some (.int .i64 on1) := HB23.out.cell 4
                  have d23_5 : w23.cell? ⟨w.heap.size + 1, 5, none⟩ = some (.slice hA 0 hc) := HB23.out.cell 5
                  have d23_6 : w23.cell? ⟨w.heap.size + 1, 6, none⟩ = some (.slice pA pn pc) := HB23.out.cell 6
                  have d23_7 : w23.cell? ⟨w.heap.size + 1, 7, none⟩ = some (.bool true) := HB23.out.cell 7
                  have d23_8 : w23.cell? ⟨w.heap.size + 1, 8, none⟩ = some (.slice aA an ac) := HB23.out.cell 8
                  clear h1 h2 h3 h4 hs he
                  have HLs := Lib.hid (list_w agW axs B b 125 (.pointer (some ⟨w.heap.size, 0, none⟩)) (.pointer (some ⟨w.heap.size + 1, 0, none⟩)) l23 an w23 HW23.out HL23.out (HT.out w (Below.refl B w)).aggs.len (HT.out w (Below.refl B w)).aggs.max (fun k a u lc ha hk hwr hlc => by
                    have hu := HT.out u (HK23.out.trans hk).below
                    exact aggI_w B b _ _ lc aA an ac axs u k a ((hk.bk HP23.out hne1 (by decide)).cell 0) ((hk.bk HB23.out hne2 (by decide)).cell 8) hu.aggs.sl hu.aggs.len hu.aggs.max ha hwr hlc (HG.out.below (HK23.out.trans hk).below) (HO.out.aggs a (List.mem_of_getElem? ha))) (fun u k => by kernel_rfl))
                  go_wp2_with fail
                  refine HLs.out.mono ?_
                  rintro e w24 hs
                  clear HLs
                  rcases WS.yes (Wk.refl B b _) hs with ⟨rfl, h1, h2⟩ | ⟨rfl, l24, h1, h2, h3, h4⟩
                  · refine ⟨rfl, ?_⟩
                    rw [← HE23.out, h1]
                    exact ⟨rfl, HK23.out.trans h2⟩
                  · have he := HE23.out
                    rw [h1] at he
                    have HE24 := Lib.hid (show WS B b w (some l24) = S from he)
                    have HK24 := Lib.hid (HK23.out.trans h4)
                    have HW24 := Lib.hid h2
                    have HL24 := Lib.hid h3
                    have HP24 := Lib.hid (h4.bk (HP23.out) hne1 (by decide))
                    have HB24 := Lib.hid (h4.bk (HB23.out) hne2 (by decide))
                    have hb24 := h2.lt
                    have hB24 := h2.le
                    have hp24 := HP24.out.lt
                    have hv24 := HB24.out.lt
                    have p24 : w24.cell? ⟨w.heap.size, 0, none⟩ = some (.pointer (some ⟨b, 0, none⟩)) := HP24.out.cell 0
                    have d24_0 : w24.cell? ⟨w.heap.size + 1, 0, none⟩ = some (.string nm) := HB24.out.cell 0
                    have d24_1 : w24.cell? ⟨w.heap.size + 1, 1, none⟩ = some (.string frm) := HB24.out.cell 1
                    have d24_2 : w24.cell? ⟨w.heap.size + 1, 2, none⟩ = some (.string wth) := HB24.out.cell 2
                    have d24_3 : w24.cell? ⟨w.heap.size + 1, 3, none⟩ = some (.int .i64 on0) := HB24.out.cell 3
                    have d24_4 : w24.cell? ⟨w.heap.size + 1, 4, none⟩ = some (.int .i64 on1) := HB24.out.cell 4
                    have d24_5 : w24.cell? ⟨w.heap.size + 1, 5, none⟩ = some (.slice hA 0 hc) := HB24.out.cell 5
                    have d24_6 : w24.cell? ⟨w.heap.size + 1, 6, none⟩ = some (.slice pA pn pc) := HB24.out.cell 6
                    have d24_7 : w24.cell? ⟨w.heap.size + 1, 7, none⟩ = some (.bool true) := HB24.out.cell 7
                    have d24_8 : w24.cell? ⟨w.heap.size + 1, 8, none⟩ = some (.slice aA an ac) := HB24.out.cell 8
                    clear h1 h2 h3 h4 hs he
                    go_wp2
                    go_end0
                    rw [← HE24.out]
                    exact ⟨rfl, HW24.out, HL24.out, HK24.out⟩
        · have he := HE2.out
          unfold whrW at he
          rw [if_neg hhz] at he
          clear HE2
          have HE2 := Lib.hid (show WS B b w (Option.bind (catW (some [w_where]) (catW (some (exprW hxs)) (picW pxs grp axs))) (addW l2)) = S from he)
          clear he
          have hlen0 : hn > 0 := by have := (HT.out w (Below.refl B w)).whr.len; simp only at this; have h2 : hxs.length ≠ 0 := (by simpa using hhz); omega
          clear hhz
          go_wp2_with fail
          refine (add_c B b w2.heap.size l2 [w_where] 1 _ (HW2.out.alloc _) HL2.out (Ws.new w2 b [w_where] _ (rfl) hb2 _ rfl) rfl (by omega) (by intro s hs; simp only [List.mem_singleton] at hs; subst hs; decide)).mono ?_
          rintro e w25 hs
          rcases WS.yes (Wk.refl B b _) hs with ⟨rfl, h1, h2⟩ | ⟨rfl, l25, h1, h2, h3, h4⟩
          · refine ⟨rfl, ?_⟩
            rw [← HE2.out, catW_add, show (some [w_where]).bind (addW l2) = none from h1]
            exact ⟨rfl, (HK2.out.alloc hB2 _).trans h2⟩
          · have he := HE2.out
            rw [catW_add, show (some [w_where]).bind (addW l2) = some l25 from h1] at he
            have HE25 := Lib.hid (show WS B b w (Option.bind (catW (some (exprW hxs)) (picW pxs grp axs)) (addW l25)) = S from he)
            have HK25 := Lib.hid ((HK2.out.alloc hB2 _).trans h4)
            have HW25 := Lib.hid h2
            have HL25 := Lib.hid h3
            have HP25 := Lib.hid (h4.bk (HP2.out.alloc _) hne1 (by decide))
            have HB25 := Lib.hid (h4.bk (HB2.out.alloc _) hne2 (by decide))
            have hb25 := h2.lt
            have hB25 := h2.le
            have hp25 := HP25.out.lt
            have hv25 := HB25.out.lt
            have p25 : w25.cell? ⟨w.heap.size, 0, none⟩ = some (.pointer (some ⟨b, 0, none⟩)) := HP25.out.cell 0
            have d25_0 : w25.cell? ⟨w.heap.size + 1, 0, none⟩ = some (.string nm) := HB25.out.cell 0
            have d25_1 : w25.cell? ⟨w.heap.size + 1, 1, none⟩ = some (.string frm) := HB25.out.cell 1
            have d25_2 : w25.cell? ⟨w.heap.size + 1, 2, none⟩ = some (.string wth) := HB25.out.cell 2
            have d25_3 : w25.cell? ⟨w.heap.size + 1, 3, none⟩ = some (.int .i64 on0) := HB25.out.cell 3
            have d25_4 : w25.cell? ⟨w.heap.size + 1, 4, none⟩ = some (.int .i64 on1) := HB25.out.cell 4
            have d25_5 : w25.cell? ⟨w.heap.size + 1, 5, none⟩ = some (.slice hA hn hc) := HB25.out.cell 5
            have d25_6 : w25.cell? ⟨w.heap.size + 1, 6, none⟩ = some (.slice pA pn pc) := HB25.out.cell 6
            have d25_7 : w25.cell? ⟨w.heap.size + 1, 7, none⟩ = some (.bool grp) := HB25.out.cell 7
            have d25_8 : w25.cell? ⟨w.heap.size + 1, 8, none⟩ = some (.slice aA an ac) := HB25.out.cell 8
            clear h1 h2 h3 h4 hs he
            go_wp2_with fail
            refine (expr_w B b l25 hxs hA hn hc w25 HW25.out HL25.out (HG.out.below HK25.out.below) HO.out.whr (HT.out _ HK25.out.below).whr.len (HT.out _ HK25.out.below).whr.max (fun u hu => (HT.out u (HK25.out.below.trans hu)).whr.sl)).mono ?_
            rintro e w26 hs
            rcases WS.yes (Wk.refl B b _) hs with ⟨rfl, h1, h2⟩ | ⟨rfl, l26, h1, h2, h3, h4⟩
            · refine ⟨rfl, ?_⟩
              rw [← HE25.out, catW_add, show (some (exprW hxs)).bind (addW l25) = none from h1]
              exact ⟨rfl, HK25.out.trans h2⟩
            · have he := HE25.out
              rw [catW_add, show (some (exprW hxs)).bind (addW l25) = some l26 from h1] at he
              have HE26 := Lib.hid (show WS B b w (Option.bind (picW pxs grp axs) (addW l26)) = S from he)
              have HK26 := Lib.hid (HK25.out.trans h4)
              have HW26 := Lib.hid h2
              have HL26 := Lib.hid h3
              have HP26 := Lib.hid (h4.bk (HP25.out) hne1 (by decide))
              have HB26 := Lib.hid (h4.bk (HB25.out) hne2 (by decide))
              have hb26 := h2.lt
              have hB26 := h2.le
              have hp26 := HP26.out.lt
              have hv26 := HB26.out.lt
              have p26 : w26.cell? ⟨w.heap.size, 0, none⟩ = some (.pointer (some ⟨b, 0, none⟩)) := HP26.out.cell 0
              have d26_0 : w26.cell? ⟨w.heap.size + 1, 0, none⟩ = some (.string nm) := HB26.out.cell 0
              have d26_1 : w26.cell? ⟨w.heap.size + 1, 1, none⟩ = some (.string frm) := HB26.out.cell 1
              have d26_2 : w26.cell? ⟨w.heap.size + 1, 2, none⟩ = some (.string wth) := HB26.out.cell 2
              have d26_3 : w26.cell? ⟨w.heap.size + 1, 3, none⟩ = some (.int .i64 on0) := HB26.out.cell 3
              have d26_4 : w26.cell? ⟨w.heap.size + 1, 4, none⟩ = some (.int .i64 on1) := HB26.out.cell 4
              have d26_5 : w26.cell? ⟨w.heap.size + 1, 5, none⟩ = some (.slice hA hn hc) := HB26.out.cell 5
              have d26_6 : w26.cell? ⟨w.heap.size + 1, 6, none⟩ = some (.slice pA pn pc) := HB26.out.cell 6
              have d26_7 : w26.cell? ⟨w.heap.size + 1, 7, none⟩ = some (.bool grp) := HB26.out.cell 7
              have d26_8 : w26.cell? ⟨w.heap.size + 1, 8, none⟩ = some (.slice aA an ac) := HB26.out.cell 8
              clear h1 h2 h3 h4 hs he
              have he := HE26.out
              unfold picW at he
              clear HE26
              have HE26 := Lib.hid (show WS B b w (Option.bind (catW (some [w_pick]) (catW (listW numW pxs) (grpW grp axs))) (addW l26)) = S from he)
              clear he
              go_wp2_with fail
              refine (add_c B b w26.heap.size l26 [w_pick] 1 _ (HW26.out.alloc _) HL26.out (Ws.new w26 b [w_pick] _ (rfl) hb26 _ rfl) rfl (by omega) (by intro s hs; simp only [List.mem_singleton] at hs; subst hs; decide)).mono ?_
              rintro e w27 hs
              rcases WS.yes (Wk.refl B b _) hs with ⟨rfl, h1, h2⟩ | ⟨rfl, l27, h1, h2, h3, h4⟩
              · refine ⟨rfl, ?_⟩
                rw [← HE26.out, catW_add, show (some [w_pick]).bind (addW l26) = none from h1]
                exact ⟨rfl, (HK26.out.alloc hB26 _).trans h2⟩
              · have he := HE26.out
                rw [catW_add, show (some [w_pick]).bind (addW l26) = some l27 from h1] at he
                have HE27 := Lib.hid (show WS B b w (Option.bind (catW (listW numW pxs) (grpW grp axs)) (addW l27)) = S from he)
                have HK27 := Lib.hid ((HK26.out.alloc hB26 _).trans h4)
                have HW27 := Lib.hid h2
                have HL27 := Lib.hid h3
                have HP27 := Lib.hid (h4.bk (HP26.out.alloc _) hne1 (by decide))
                have HB27 := Lib.hid (h4.bk (HB26.out.alloc _) hne2 (by decide))
                have hb27 := h2.lt
                have hB27 := h2.le
                have hp27 := HP27.out.lt
                have hv27 := HB27.out.lt
                have p27 : w27.cell? ⟨w.heap.size, 0, none⟩ = some (.pointer (some ⟨b, 0, none⟩)) := HP27.out.cell 0
                have d27_0 : w27.cell? ⟨w.heap.size + 1, 0, none⟩ = some (.string nm) := HB27.out.cell 0
                have d27_1 : w27.cell? ⟨w.heap.size + 1, 1, none⟩ = some (.string frm) := HB27.out.cell 1
                have d27_2 : w27.cell? ⟨w.heap.size + 1, 2, none⟩ = some (.string wth) := HB27.out.cell 2
                have d27_3 : w27.cell? ⟨w.heap.size + 1, 3, none⟩ = some (.int .i64 on0) := HB27.out.cell 3
                have d27_4 : w27.cell? ⟨w.heap.size + 1, 4, none⟩ = some (.int .i64 on1) := HB27.out.cell 4
                have d27_5 : w27.cell? ⟨w.heap.size + 1, 5, none⟩ = some (.slice hA hn hc) := HB27.out.cell 5
                have d27_6 : w27.cell? ⟨w.heap.size + 1, 6, none⟩ = some (.slice pA pn pc) := HB27.out.cell 6
                have d27_7 : w27.cell? ⟨w.heap.size + 1, 7, none⟩ = some (.bool grp) := HB27.out.cell 7
                have d27_8 : w27.cell? ⟨w.heap.size + 1, 8, none⟩ = some (.slice aA an ac) := HB27.out.cell 8
                clear h1 h2 h3 h4 hs he
                have HLs := Lib.hid (list_w numW pxs B b 123 (.pointer (some ⟨w.heap.size, 0, none⟩)) (.pointer (some ⟨w.heap.size + 1, 0, none⟩)) l27 pn w27 HW27.out HL27.out (HT.out w (Below.refl B w)).pick.len (HT.out w (Below.refl B w)).pick.max (fun k a u lc ha hk hwr hlc => by
                  have hu := HT.out u (HK27.out.trans hk).below
                  exact pickI_w B b _ _ lc pA pn pc pxs u k a ((hk.bk HP27.out hne1 (by decide)).cell 0) ((hk.bk HB27.out hne2 (by decide)).cell 6) hu.pick.sl hu.pick.len hu.pick.max ha hwr hlc (HG.out.below (HK27.out.trans hk).below) (HO.out.pick a (List.mem_of_getElem? ha))) (fun u k => by kernel_rfl))
                go_wp2_with fail
                refine HLs.out.mono ?_
                rintro e w28 hs
                clear HLs
                rcases WS.yes (Wk.refl B b _) hs with ⟨rfl, h1, h2⟩ | ⟨rfl, l28, h1, h2, h3, h4⟩
                · refine ⟨rfl, ?_⟩
                  rw [← HE27.out, catW_add, h1]
                  exact ⟨rfl, HK27.out.trans h2⟩
                · have he := HE27.out
                  rw [catW_add, h1] at he
                  have HE28 := Lib.hid (show WS B b w (Option.bind (grpW grp axs) (addW l28)) = S from he)
                  have HK28 := Lib.hid (HK27.out.trans h4)
                  have HW28 := Lib.hid h2
                  have HL28 := Lib.hid h3
                  have HP28 := Lib.hid (h4.bk (HP27.out) hne1 (by decide))
                  have HB28 := Lib.hid (h4.bk (HB27.out) hne2 (by decide))
                  have hb28 := h2.lt
                  have hB28 := h2.le
                  have hp28 := HP28.out.lt
                  have hv28 := HB28.out.lt
                  have p28 : w28.cell? ⟨w.heap.size, 0, none⟩ = some (.pointer (some ⟨b, 0, none⟩)) := HP28.out.cell 0
                  have d28_0 : w28.cell? ⟨w.heap.size + 1, 0, none⟩ = some (.string nm) := HB28.out.cell 0
                  have d28_1 : w28.cell? ⟨w.heap.size + 1, 1, none⟩ = some (.string frm) := HB28.out.cell 1
                  have d28_2 : w28.cell? ⟨w.heap.size + 1, 2, none⟩ = some (.string wth) := HB28.out.cell 2
                  have d28_3 : w28.cell? ⟨w.heap.size + 1, 3, none⟩ = some (.int .i64 on0) := HB28.out.cell 3
                  have d28_4 : w28.cell? ⟨w.heap.size + 1, 4, none⟩ = some (.int .i64 on1) := HB28.out.cell 4
                  have d28_5 : w28.cell? ⟨w.heap.size + 1, 5, none⟩ = some (.slice hA hn hc) := HB28.out.cell 5
                  have d28_6 : w28.cell? ⟨w.heap.size + 1, 6, none⟩ = some (.slice pA pn pc) := HB28.out.cell 6
                  have d28_7 : w28.cell? ⟨w.heap.size + 1, 7, none⟩ = some (.bool grp) := HB28.out.cell 7
                  have d28_8 : w28.cell? ⟨w.heap.size + 1, 8, none⟩ = some (.slice aA an ac) := HB28.out.cell 8
                  clear h1 h2 h3 h4 hs he
                  cases grp
                  · have he := HE28.out
                    unfold grpW at he
                    clear HE28
                    have HE28 := Lib.hid (show WS B b w (some l28) = S from he)
                    clear he
                    go_wp2
                    go_end0
                    rw [← HE28.out]
                    exact ⟨rfl, HW28.out, HL28.out, HK28.out⟩
                  · have he := HE28.out
                    unfold grpW at he
                    clear HE28
                    have HE28 := Lib.hid (show WS B b w (Option.bind (catW (some [w_group]) (listW agW axs)) (addW l28)) = S from he)
                    clear he
                    go_wp2_with fail
                    refine (add_c B b w28.heap.size l28 [w_group] 1 _ (HW28.out.alloc _) HL28.out (Ws.new w28 b [w_group] _ (rfl) hb28 _ rfl) rfl (by omega) (by intro s hs; simp only [List.mem_singleton] at hs; subst hs; decide)).mono ?_
                    rintro e w29 hs
                    rcases WS.yes (Wk.refl B b _) hs with ⟨rfl, h1, h2⟩ | ⟨rfl, l29, h1, h2, h3, h4⟩
                    · refine ⟨rfl, ?_⟩
                      rw [← HE28.out, catW_add, show (some [w_group]).bind (addW l28) = none from h1]
                      exact ⟨rfl, (HK28.out.alloc hB28 _).trans h2⟩
                    · have he := HE28.out
                      rw [catW_add, show (some [w_group]).bind (addW l28) = some l29 from h1] at he
                      have HE29 := Lib.hid (show WS B b w (Option.bind (listW agW axs) (addW l29)) = S from he)
                      have HK29 := Lib.hid ((HK28.out.alloc hB28 _).trans h4)
                      have HW29 := Lib.hid h2
                      have HL29 := Lib.hid h3
                      have HP29 := Lib.hid (h4.bk (HP28.out.alloc _) hne1 (by decide))
                      have HB29 := Lib.hid (h4.bk (HB28.out.alloc _) hne2 (by decide))
                      have hb29 := h2.lt
                      have hB29 := h2.le
                      have hp29 := HP29.out.lt
                      have hv29 := HB29.out.lt
                      have p29 : w29.cell? ⟨w.heap.size, 0, none⟩ = some (.pointer (some ⟨b, 0, none⟩)) := HP29.out.cell 0
                      have d29_0 : w29.cell? ⟨w.heap.size + 1, 0, none⟩ = some (.string nm) := HB29.out.cell 0
                      have d29_1 : w29.cell? ⟨w.heap.size + 1, 1, none⟩ = some (.string frm) := HB29.out.cell 1
                      have d29_2 : w29.cell? ⟨w.heap.size + 1, 2, none⟩ = some (.string wth) := HB29.out.cell 2
                      have d29_3 : w29.cell? ⟨w.heap.size + 1, 3, none⟩ = some (.int .i64 on0) := HB29.out.cell 3
                      have d29_4 : w29.cell? ⟨w.heap.size + 1, 4, none⟩ = some (.int .i64 on1) := HB29.out.cell 4
                      have d29_5 : w29.cell? ⟨w.heap.size + 1, 5, none⟩ = some (.slice hA hn hc) := HB29.out.cell 5
                      have d29_6 : w29.cell? ⟨w.heap.size + 1, 6, none⟩ = some (.slice pA pn pc) := HB29.out.cell 6
                      have d29_7 : w29.cell? ⟨w.heap.size + 1, 7, none⟩ = some (.bool true) := HB29.out.cell 7
                      have d29_8 : w29.cell? ⟨w.heap.size + 1, 8, none⟩ = some (.slice aA an ac) := HB29.out.cell 8
                      clear h1 h2 h3 h4 hs he
                      have HLs := Lib.hid (list_w agW axs B b 125 (.pointer (some ⟨w.heap.size, 0, none⟩)) (.pointer (some ⟨w.heap.size + 1, 0, none⟩)) l29 an w29 HW29.out HL29.out (HT.out w (Below.refl B w)).aggs.len (HT.out w (Below.refl B w)).aggs.max (fun k a u lc ha hk hwr hlc => by
                        have hu := HT.out u (HK29.out.trans hk).below
                        exact aggI_w B b _ _ lc aA an ac axs u k a ((hk.bk HP29.out hne1 (by decide)).cell 0) ((hk.bk HB29.out hne2 (by decide)).cell 8) hu.aggs.sl hu.aggs.len hu.aggs.max ha hwr hlc (HG.out.below (HK29.out.trans hk).below) (HO.out.aggs a (List.mem_of_getElem? ha))) (fun u k => by kernel_rfl))
                      go_wp2_with fail
                      refine HLs.out.mono ?_
                      rintro e w30 hs
                      clear HLs
                      rcases WS.yes (Wk.refl B b _) hs with ⟨rfl, h1, h2⟩ | ⟨rfl, l30, h1, h2, h3, h4⟩
                      · refine ⟨rfl, ?_⟩
                        rw [← HE29.out, h1]
                        exact ⟨rfl, HK29.out.trans h2⟩
                      · have he := HE29.out
                        rw [h1] at he
                        have HE30 := Lib.hid (show WS B b w (some l30) = S from he)
                        have HK30 := Lib.hid (HK29.out.trans h4)
                        have HW30 := Lib.hid h2
                        have HL30 := Lib.hid h3
                        have HP30 := Lib.hid (h4.bk (HP29.out) hne1 (by decide))
                        have HB30 := Lib.hid (h4.bk (HB29.out) hne2 (by decide))
                        have hb30 := h2.lt
                        have hB30 := h2.le
                        have hp30 := HP30.out.lt
                        have hv30 := HB30.out.lt
                        have p30 : w30.cell? ⟨w.heap.size, 0, none⟩ = some (.pointer (some ⟨b, 0, none⟩)) := HP30.out.cell 0
                        have d30_0 : w30.cell? ⟨w.heap.size + 1, 0, none⟩ = some (.string nm) := HB30.out.cell 0
                        have d30_1 : w30.cell? ⟨w.heap.size + 1, 1, none⟩ = some (.string frm) := HB30.out.cell 1
                        have d30_2 : w30.cell? ⟨w.heap.size + 1, 2, none⟩ = some (.string wth) := HB30.out.cell 2
                        have d30_3 : w30.cell? ⟨w.heap.size + 1, 3, none⟩ = some (.int .i64 on0) := HB30.out.cell 3
                        have d30_4 : w30.cell? ⟨w.heap.size + 1, 4, none⟩ = some (.int .i64 on1) := HB30.out.cell 4
                        have d30_5 : w30.cell? ⟨w.heap.size + 1, 5, none⟩ = some (.slice hA hn hc) := HB30.out.cell 5
                        have d30_6 : w30.cell? ⟨w.heap.size + 1, 6, none⟩ = some (.slice pA pn pc) := HB30.out.cell 6
                        have d30_7 : w30.cell? ⟨w.heap.size + 1, 7, none⟩ = some (.bool true) := HB30.out.cell 7
                        have d30_8 : w30.cell? ⟨w.heap.size + 1, 8, none⟩ = some (.slice aA an ac) := HB30.out.cell 8
                        clear h1 h2 h3 h4 hs he
                        go_wp2
                        go_end0
                        rw [← HE30.out]
                        exact ⟨rfl, HW30.out, HL30.out, HK30.out⟩
end Go.Proofs.YtjgpmnffagdhlaaGreatDoor
namespace Go.Proofs.YtjgpmnffagdhlaaGreatDoor
open Go Go.RowKit
set_option maxRecDepth 100000
set_option maxHeartbeats 8000000 in
theorem def_w (B b : Nat) (l : List UInt8) (d : Dm) (w : World) (hw : Wr w B b l) (hl : l.length ≤ 20000) (hG : Gw B w) (ht : ∀ u, Below B w u → d.In u) (hok : DfOk d.df) :
    Calls Tryz.prog 54 #[.pointer (some ⟨b, 0, none⟩), d.w] w (WS B b w ((dfW d.df).bind (addW l))) := by
  obtain ⟨S, hS⟩ : ∃ S, WS B b w ((dfW d.df).bind (addW l)) = S := ⟨_, rfl⟩
  rw [hS]
  obtain ⟨k, t, v⟩ := d
  have hwl := hw.lt
  have hwB := hw.le
  obtain ⟨w0, hw0⟩ : ∃ w0, w.alloc (.cells #[.int .i64 k, .string t.name, .slice t.cols.A t.cols.n t.cols.c, .slice t.chks.A t.chks.n t.chks.c, .string v.name, .string v.frm, .string v.wth, .int .i64 v.on0, .int .i64 v.on1, .slice v.whr.A v.whr.n v.whr.c, .slice v.pick.A v.pick.n v.pick.c, .bool v.grp, .slice v.aggs.A v.aggs.n v.aggs.c] 34) = w0 := ⟨_, rfl⟩
  have hsz0 : w0.heap.size = w.heap.size + 1 := by rw [← hw0]; simp
  have HW0 : Hid (Wr w0 B b l) := Lib.hid (by rw [← hw0]; exact hw.alloc _)
  have HK0 : Hid (Wk B b w w0) := Lib.hid (by rw [← hw0]; exact (Wk.refl B b w).alloc hwB _)
  have HB0 : Hid (Bk w0 w.heap.size #[.int .i64 k, .string t.name, .slice t.cols.A t.cols.n t.cols.c, .slice t.chks.A t.chks.n t.chks.c, .string v.name, .string v.frm, .string v.wth, .int .i64 v.on0, .int .i64 v.on1, .slice v.whr.A v.whr.n v.whr.c, .slice v.pick.A v.pick.n v.pick.c, .bool v.grp, .slice v.aggs.A v.aggs.n v.aggs.c] 34) := Lib.hid (by rw [← hw0]; exact Bk.new w _ _)
  have hne1 : w.heap.size ≠ b := by omega
  have hb0 := HW0.out.lt
  have hB0 := HW0.out.le
  have d0 : w0.cell? ⟨w.heap.size, 0, none⟩ = some (.int .i64 k) := HB0.out.cell 0
  have HE0 : Hid (WS B b w (((chW k dfWs).bind (addW l)).bind fun q => (if k = 0 then tbW t.tb else vwW v.vw).bind (addW q)) = S) := Lib.hid (by rw [← hS, ← catW_add]; rfl)
  have HL0 := Lib.hid hl
  have HG := Lib.hid hG
  have HT := Lib.hid ht
  have HO := Lib.hid hok
  clear hS hw hl hG ht hok
  go_enter Tryz.func54, Tryz.ntmps54
  go_wp2_with fail
  rw [← hsz0]
  refine (choice_w B b w0.heap.size l k dfWs 2 _ (HW0.out.alloc _) HL0.out (Ws.new w0 b dfWs _ rfl hb0 _ rfl) rfl (by omega) (by intro s hs; simp [dfWs] at hs; rcases hs with rfl | rfl <;> decide)).mono ?_
  rintro e w1 hs
  rcases WS.yes (Wk.refl B b _) hs with ⟨rfl, h1, h2⟩ | ⟨rfl, l1, h1, h2, h3, h4⟩
  · refine ⟨rfl, ?_⟩
    rw [← HE0.out, h1]
    exact ⟨rfl, (HK0.out.alloc hB0 _).trans h2⟩
  · have he := HE0.out
    rw [h1, Option.bind_some] at he
    have HW1 := Lib.hid h2
    have HL1 := Lib.hid h3
    have HK1 := Lib.hid ((HK0.out.alloc hB0 _).trans h4)
    have HB1 := Lib.hid (h4.bk (HB0.out.alloc _) hne1 (by decide))
    have hb1 := h2.lt
    have hB1 := h2.le
    have hC1 := HB1.out.lt
    have d1_0 : w1.cell? ⟨w.heap.size, 0, none⟩ = some (.int .i64 k) := HB1.out.cell 0
    have d1_1 : w1.cell? ⟨w.heap.size, 1, none⟩ = some (.string t.name) := HB1.out.cell 1
    have d1_2 : w1.cell? ⟨w.heap.size, 2, none⟩ = some (.slice t.cols.A t.cols.n t.cols.c) := HB1.out.cell 2
    have d1_3 : w1.cell? ⟨w.heap.size, 3, none⟩ = some (.slice t.chks.A t.chks.n t.chks.c) := HB1.out.cell 3
    have d1_4 : w1.cell? ⟨w.heap.size, 4, none⟩ = some (.string v.name) := HB1.out.cell 4
    have d1_5 : w1.cell? ⟨w.heap.size, 5, none⟩ = some (.string v.frm) := HB1.out.cell 5
    have d1_6 : w1.cell? ⟨w.heap.size, 6, none⟩ = some (.string v.wth) := HB1.out.cell 6
    have d1_7 : w1.cell? ⟨w.heap.size, 7, none⟩ = some (.int .i64 v.on0) := HB1.out.cell 7
    have d1_8 : w1.cell? ⟨w.heap.size, 8, none⟩ = some (.int .i64 v.on1) := HB1.out.cell 8
    have d1_9 : w1.cell? ⟨w.heap.size, 9, none⟩ = some (.slice v.whr.A v.whr.n v.whr.c) := HB1.out.cell 9
    have d1_10 : w1.cell? ⟨w.heap.size, 10, none⟩ = some (.slice v.pick.A v.pick.n v.pick.c) := HB1.out.cell 10
    have d1_11 : w1.cell? ⟨w.heap.size, 11, none⟩ = some (.bool v.grp) := HB1.out.cell 11
    have d1_12 : w1.cell? ⟨w.heap.size, 12, none⟩ = some (.slice v.aggs.A v.aggs.n v.aggs.c) := HB1.out.cell 12
    clear h1 h2 h3 h4 hs d0 HB0 HW0 HE0 hw0
    by_cases hk : k = 0
    · subst hk
      rw [if_pos rfl] at he
      have HE1 := Lib.hid he
      clear he
      go_wp2_with fail
      refine (table_w B b l1 t w1 HW1.out HL1.out (HG.out.below HK1.out.below) (fun u hu => (HT.out u (HK1.out.below.trans hu)).t) HO.out.t).mono ?_
      rintro e w2 hs
      rcases WS.yes HK1.out hs with ⟨rfl, h1, h2⟩ | ⟨rfl, l2, h1, h2, h3, h4⟩
      · refine ⟨rfl, ?_⟩
        rw [← HE1.out, h1]
        exact ⟨rfl, h2⟩
      · have HX := Lib.hid (And.intro h1 (And.intro h2 (And.intro h3 h4)))
        clear h1 h2 h3 h4 hs d1_0 d1_1 d1_2 d1_3 d1_4 d1_5 d1_6 d1_7 d1_8 d1_9 d1_10 d1_11 d1_12
        go_wp2
        go_end0
        rw [← HE1.out, HX.out.1]
        exact ⟨rfl, HX.out.2⟩
    · rw [if_neg hk] at he
      have HE1 := Lib.hid he
      clear he
      go_wp2_with fail
      refine (view_w B b l1 v w1 HW1.out HL1.out (HG.out.below HK1.out.below) (fun u hu => (HT.out u (HK1.out.below.trans hu)).v) HO.out.v).mono ?_
      rintro e w2 hs
      rcases WS.yes HK1.out hs with ⟨rfl, h1, h2⟩ | ⟨rfl, l2, h1, h2, h3, h4⟩
      · refine ⟨rfl, ?_⟩
        rw [← HE1.out, h1]
        exact ⟨rfl, h2⟩
      · have HX := Lib.hid (And.intro h1 (And.intro h2 (And.intro h3 h4)))
        clear h1 h2 h3 h4 hs d1_0 d1_1 d1_2 d1_3 d1_4 d1_5 d1_6 d1_7 d1_8 d1_9 d1_10 d1_11 d1_12
        go_wp2
        go_end0
        rw [← HE1.out, HX.out.1]
        exact ⟨rfl, HX.out.2⟩
end Go.Proofs.YtjgpmnffagdhlaaGreatDoor
namespace Go.Proofs.YtjgpmnffagdhlaaGreatDoor
open Go Go.RowKit
set_option maxRecDepth 100000
theorem byteC1 : Tryz.prog.cellsOf 5 = 1 := by kernel_rfl
set_option maxHeartbeats 4000000 in
theorem wtext_c (B b : Nat) (l : List UInt8) (w : World) (h : Wr w B b l) (h0 : l ≠ []) (hl : l.length ≤ 20000) :
    Calls Tryz.prog 55 #[.pointer (some ⟨b, 0, none⟩)] w fun e w' => e = .returned (.string (ba l)) ∧ Below B w w' := by
  obtain ⟨p, hB, v, hk, hv, hne⟩ : ∃ p, WrP p w B b l := h.elim (fun h => ⟨_, h⟩) (fun h => ⟨_, h⟩)
  have hl0 : l.length ≠ 0 := by simpa using h0
  obtain ⟨g, cap, cur, rfl, hBg, hg, hnc, hcm, hcs, htk⟩ : ∃ g cap cur, v = .slice (some ⟨g, 0, none⟩) l.length cap ∧ B ≤ g ∧ w.heap[g]? = some (.cells cur 5 (0, 0)) ∧ l.length ≤ cap ∧ cap ≤ maxLen ∧ cur.size = cap * 1 ∧ cur.toList.take (l.length * 1) = bcells l := by
    rcases hv.2 with ⟨_, hz⟩ | ⟨g, cap, cur, hv, r⟩
    · exact absurd hz hl0
    · exact ⟨g, cap, cur, hv, r⟩
  have c1 : w.drew.cell? ⟨b, 1, none⟩ = some (.slice (some ⟨g, 0, none⟩) l.length cap) := hk.cell 1
  have hSD : (Builtin.unsafeSliceData_ #[93] 144 #[.slice (some ⟨g, 0, none⟩) l.length cap]).run Tryz.prog w.drew = .ok (.pointer (some ⟨g, 0, none⟩)) w.drew :=
    Lib.run_unsafeSliceData_row _ _ _ _ _ _ (by omega)
  have hUS : (Builtin.unsafeString_ #[144, 3] 9 #[.pointer (some ⟨g, 0, none⟩), .int .i64 l.length]).run Tryz.prog w.drew = .ok (.string ⟨l.toArray⟩) (w.drew.freeze ⟨g, 0, none⟩ l.length) := by
    refine Lib.run_unsafeString_row w.drew 144 3 9 5 Tryz.underlying144 byteC1 g cur.size (by have hg' : w.drew.heap[g]? = some (.cells cur 5 (0, 0)) := hg; simp [World.shape?, hg']) l h0 (by omega) (by omega) ?_
    intro j x hx
    exact World.ownsRow.cells (g := g) hv rfl j _ (by simp [bcells, hx])
  obtain ⟨t, ht⟩ : ∃ t : ByteArray, (⟨l.toArray⟩ : ByteArray) = t := ⟨_, rfl⟩
  rw [ht] at hUS
  have Ht : Hid (ba l = t) := Lib.hid ht
  show Calls _ _ _ _ fun e w' => e = .returned (.string (ba l)) ∧ Below B w w'
  rw [Ht.out]
  clear ht hv hk htk hne h h0
  have hmx : Tryz.prog.follows .mixedOrders = true := by kernel_rfl
  go_enter Tryz.func55, Tryz.ntmps55
  go_wp2
  go_region_o
  all_goals (go_wp2; go_ret; exact ⟨rfl, Lib.below_freeze (Below.drew (Below.refl B w)) (p := ⟨g, 0, none⟩) hBg _⟩)
end Go.Proofs.YtjgpmnffagdhlaaGreatDoor
namespace Go.Proofs.YtjgpmnffagdhlaaGreatDoor
open Go Go.RowKit
set_option maxRecDepth 100000
theorem txt_tW (l : List UInt8) : txtT (tW l) = l := rfl
theorem txt_tS (l : List UInt8) : txtT (tS l) = l := rfl
theorem txt_tN (b : ByteArray) : txtT (tN b) = b.data.toList := rfl
theorem txt_int (n : Int) : txtT (intT n) = Lib.itoa n := rfl
theorem txt_nl : textL nl = w_null := by decide
theorem txt_tt : textL tt = w_true := by decide
theorem txt_ff : textL ff = w_false := by decide
theorem step_words {x : Nd} (h : mayNd x = true) : stepW x = (ndT x).map txtT := by
  obtain ⟨op, n, v⟩ := x
  unfold mayNd at h
  simp only at h
  by_cases h0 : op = 0
  · subst h0
    simp only [if_true, Bool.and_eq_true] at h
    have hn := h.1
    unfold colB at hn
    simp only [Bool.and_eq_true, decide_eq_true_eq] at hn
    have e : stepW ⟨0, n, v⟩ = [99 :: Lib.itoa n] := rfl
    have e2 : (ndT ⟨0, n, v⟩).map txtT = [99 :: Lib.itoa (n.toNat : Int)] := rfl
    rw [e, e2, Int.toNat_of_nonneg hn.1]
  · rw [if_neg h0] at h
    by_cases h1 : op = 1
    · subst h1
      have e : stepW ⟨1, n, v⟩ = [textL v] := rfl
      rw [e]
      have e2 : ndT ⟨1, n, v⟩ = if v.eq nl then [tW w_null] else if v.eq tt then [tW w_true] else if v.eq ff then [tW w_false] else [⟨1, emp, v⟩] := rfl
      rw [e2]
      by_cases e1 : v.eq nl = true
      · rw [if_pos e1, Val.eq_iff.1 e1, txt_nl]; rfl
      · rw [if_neg e1]
        by_cases e2 : v.eq tt = true
        · rw [if_pos e2, Val.eq_iff.1 e2, txt_tt]; rfl
        · rw [if_neg e2]
          by_cases e3 : v.eq ff = true
          · rw [if_pos e3, Val.eq_iff.1 e3, txt_ff]; rfl
          · rw [if_neg e3]; rfl
    · rw [if_neg h1] at h
      simp only [Bool.and_eq_true, decide_eq_true_eq] at h
      obtain ⟨g1, g2, -⟩ := h
      have hc : op = 2 ∨ op = 3 ∨ op = 4 ∨ op = 5 ∨ op = 6 ∨ op = 7 ∨ op = 8 ∨ op = 9 ∨ op = 10 := by omega
      rcases hc with rfl | rfl | rfl | rfl | rfl | rfl | rfl | rfl | rfl <;> rfl
theorem steps_words : ∀ {e : List Nd}, (∀ x ∈ e, mayNd x = true) → e.flatMap stepW = (e.flatMap ndT).map txtT
  | [], _ => rfl
  | x :: e, h => by
    rw [List.flatMap_cons, List.flatMap_cons, List.map_append, step_words (h x (by simp)), steps_words fun y hy => h y (List.mem_cons_of_mem _ hy)]
theorem expr_words {e : List Nd} (h : mayE e = true) : exprW e = (exprT e).map txtT := by
  unfold mayE at h
  simp only [Bool.and_eq_true, List.all_eq_true] at h
  unfold exprW exprT
  rw [List.map_cons, List.map_append, steps_words h.2]
  rfl
theorem catW_some (a b : List (List UInt8)) : catW (some a) (some b) = some (a ++ b) := rfl
theorem tail_words {α : Type} (f : α → Option (List (List UInt8))) (g : α → List Tk) : ∀ xs : List α, (∀ a ∈ xs, f a = some ((g a).map txtT)) → xs ≠ [] → tailW f xs = some ((tS s_cm :: sepT g xs).map txtT)
  | [], _, h => absurd rfl h
  | [a], h, _ => by
    show catW (some [s_cm]) (catW (f a) (some [])) = _
    rw [h a (by simp)]
    simp [catW, sepT, txt_tS]
  | a :: b :: r, h, _ => by
    have ih := tail_words f g (b :: r) (fun x hx => h x (List.mem_cons_of_mem _ hx)) (by simp)
    show catW (some [s_cm]) (catW (f a) (tailW f (b :: r))) = _
    rw [ih, h a (by simp), catW_some, catW_some]
    congr 1
    rw [show sepT g (a :: b :: r) = g a ++ (tS s_cm :: sepT g (b :: r)) from rfl]
    simp [txt_tS]
theorem list_words {α : Type} (f : α → Option (List (List UInt8))) (g : α → List Tk) (xs : List α) (h : ∀ a ∈ xs, f a = some ((g a).map txtT)) : listW f xs = some ((sepT g xs).map txtT) := by
  cases xs with
  | nil => rfl
  | cons a r =>
    cases r with
    | nil =>
      show catW (f a) (some []) = _
      rw [h a (by simp), catW_some]
      simp [sepT]
    | cons b r =>
      have ih := tail_words f g (b :: r) (fun x hx => h x (List.mem_cons_of_mem _ hx)) (by simp)
      show catW (f a) (tailW f (b :: r)) = _
      rw [ih, h a (by simp), catW_some]
      congr 1
      rw [show sepT g (a :: b :: r) = g a ++ (tS s_cm :: sepT g (b :: r)) from rfl]
      simp
theorem size_if {α : Type} (b : ByteArray) (x y : α) : (if b.size = 0 then x else y) = (if b.toList.isEmpty then x else y) := by
  by_cases h : b.size = 0
  · rw [if_pos h, size_eq h, if_pos rfl]
  · rw [if_neg h, size_ne h, if_neg (by simp)]
theorem kind_words {k : Int} (h1 : 1 ≤ k) (h3 : k ≤ 3) : chW (IntKind.i64.wrap (k - 1)) kdWs = some [kindW k] := by
  have : k = 1 ∨ k = 2 ∨ k = 3 := by omega
  rcases this with rfl | rfl | rfl <;> rfl
theorem act_words {k : Int} (h1 : 0 ≤ k) (h3 : k ≤ 2) : chW k acWs = some [actW k] := by
  have : k = 0 ∨ k = 1 ∨ k = 2 := by omega
  rcases this with rfl | rfl | rfl <;> rfl
theorem fn_words {k : Int} (h1 : 0 ≤ k) (h3 : k ≤ 3) : chW k fnWs = some [fnW k] := by
  have : k = 0 ∨ k = 1 ∨ k = 2 ∨ k = 3 := by omega
  rcases this with rfl | rfl | rfl | rfl <;> rfl
theorem col_words {c : Cl} (h : mayCl c = true) : clW c = some ((clT c).map txtT) := by
  obtain ⟨nm, k, nu, un, rf, ac⟩ := c
  unfold mayCl at h
  simp only [Bool.and_eq_true, decide_eq_true_eq] at h
  obtain ⟨h1, h2, h3, h4⟩ := h
  unfold clW nulW uniW refW clT
  simp only
  rw [kind_words h2 h3, size_if]
  cases hr : rf.toList.isEmpty
  · rw [hr] at h4
    simp only [Bool.false_eq_true, if_false, Bool.and_eq_true, decide_eq_true_eq] at h4
    rw [act_words h4.2.1 h4.2.2]
    cases nu <;> cases un <;> simp [catW, txt_tW, txt_tN]
  · cases nu <;> cases un <;> simp [catW, txt_tW, txt_tN]
theorem checks_words : ∀ {es : List (List Nd)}, (∀ e ∈ es, mayE e = true) → chkW es = (es.flatMap fun e => tW w_check :: exprT e).map txtT
  | [], _ => rfl
  | e :: es, h => by
    have ih := checks_words (es := es) fun y hy => h y (List.mem_cons_of_mem _ hy)
    unfold chkW at *
    rw [List.flatMap_cons, List.flatMap_cons, List.map_append, ih, expr_words (h e (by simp))]
    rfl
theorem table_words {t : Tb} (h : mayTb t = true) : tbW t = some ((tbT t).map txtT) := by
  unfold mayTb at h
  simp only [Bool.and_eq_true, List.all_eq_true] at h
  obtain ⟨a1, a2, a3, a4, a5, a6⟩ := h
  unfold tbW tbT
  rw [list_words clW clT t.cols (fun c hc => col_words (a5 c hc)), checks_words a6, catW_some, catW_some]
  simp [txt_tN, txt_tS]
theorem agg_words {a : Ag} (h : mayAg a = true) : agW a = some ((agT a).map txtT) := by
  unfold mayAg at h
  unfold agW agT
  by_cases h0 : a.fn = 0
  · rw [if_pos h0, if_pos h0, h0, fn_words (by decide) (by decide)]; rfl
  · rw [if_neg h0] at h
    simp only [Bool.and_eq_true, decide_eq_true_eq] at h
    rw [if_neg h0, if_neg h0, fn_words h.1 h.2.1]; rfl
theorem view_words {v : Vw} (h : mayVw v = true) : vwW v = some ((vwT v).map txtT) := by
  unfold mayVw at h
  simp only [Bool.and_eq_true, List.all_eq_true] at h
  obtain ⟨a1, a2, a3, a4, a5, a6, a7, a8, a9⟩ := h
  have hp : listW numW v.pick = some ((sepT (fun n => [intT n]) v.pick).map txtT) := list_words numW _ v.pick (fun n _ => rfl)
  have hg : grpW v.grp v.aggs = some ((if v.grp then tW w_group :: sepT agT v.aggs else []).map txtT) := by
    unfold grpW
    cases v.grp
    · rfl
    · rw [if_pos rfl, if_pos rfl, list_words agW agT v.aggs (fun a ha => agg_words (a8 a ha)), catW_some]; rfl
  have hpic : picW v.pick v.grp v.aggs = some ((tW w_pick :: (sepT (fun n => [intT n]) v.pick ++ (if v.grp then tW w_group :: sepT agT v.aggs else []))).map txtT) := by
    unfold picW
    rw [hp, hg, catW_some, catW_some, List.map_cons, List.map_append]; rfl
  have hwh : whrW v.whr v.pick v.grp v.aggs = some (((if v.whr.isEmpty then [] else tW w_where :: exprT v.whr) ++ tW w_pick :: (sepT (fun n => [intT n]) v.pick ++ (if v.grp then tW w_group :: sepT agT v.aggs else []))).map txtT) := by
    unfold whrW
    rw [hpic, expr_words a4]
    cases hw : v.whr with
    | nil => rw [if_pos rfl, catW_some]; rfl
    | cons x r => rw [if_neg (by simp), catW_some, catW_some, List.map_append]; rfl
  obtain ⟨T, hT⟩ : ∃ T, ((if v.whr.isEmpty then [] else tW w_where :: exprT v.whr) ++ tW w_pick :: (sepT (fun n => [intT n]) v.pick ++ (if v.grp then tW w_group :: sepT agT v.aggs else []))) = T := ⟨_, rfl⟩
  have e : vwT v = tN v.name :: tW w_from :: tN v.frm :: ((if v.wth.toList.isEmpty then [] else [tW w_join, tN v.wth, tW w_on, intT v.on0, tS s_eq, intT v.on1]) ++ T) := by rw [← hT]; rfl
  rw [hT] at hwh
  rw [e]
  unfold vwW wthW
  rw [hwh, size_if]
  cases hj : v.wth.toList.isEmpty <;> simp [catW, txt_tW, txt_tN, txt_tS, txt_int]
/-- Of a definition that may be the words are the texts of its tokens. -/
theorem def_words {d : Df} (h : MayD d) : dfW d = some ((toksD d).map txtT) := by
  obtain ⟨k, t, v⟩ := d
  rcases h with ⟨rfl, h1, rfl⟩ | ⟨rfl, rfl, h1⟩
  · unfold dfW toksD
    simp only at h1
    simp only [if_true]
    rw [table_words h1]; rfl
  · unfold dfW toksD
    simp only at h1
    have n1 : ¬ (1 : Int) = 0 := by decide
    simp only [if_neg n1]
    rw [view_words h1]; rfl
theorem addW_tail : ∀ (ws : List (List UInt8)) (l : List UInt8), l ≠ [] → l.length ≤ 20000 → addW l ws = if (l ++ Lib.joinTail [32] ws).length ≤ 20000 then some (l ++ Lib.joinTail [32] ws) else none
  | [], l, _, hl => by
    have e : l ++ Lib.joinTail [32] [] = l := by simp [Lib.joinTail]
    rw [e, if_pos hl]; rfl
  | s :: ss, l, h, hl => by
    have hb : blankW l = l ++ [32] := by unfold blankW; rw [if_neg h]
    have e : l ++ Lib.joinTail [32] (s :: ss) = (l ++ [32] ++ s) ++ Lib.joinTail [32] ss := by simp [Lib.joinTail]
    rw [e]
    unfold addW
    rw [hb]
    by_cases hc : (l ++ [32]).length + s.length ≤ 20000
    · rw [if_pos hc, addW_tail ss (l ++ [32] ++ s) (by simp) (by rw [List.length_append]; exact hc)]
    · rw [if_neg hc, if_neg (by rw [List.length_append, List.length_append]; omega)]
theorem addW_join (s : List UInt8) (ss : List (List UInt8)) (h : s ≠ []) (hs : s.length ≤ 20000) : addW [] (s :: ss) = if (Lib.join (s :: ss) [32]).length ≤ 20000 then some (Lib.join (s :: ss) [32]) else none := by
  rw [Lib.join_cons]
  have e : addW [] (s :: ss) = addW s ss := by
    show (if (blankW []).length + s.length ≤ 20000 then addW (blankW [] ++ s) ss else none) = _
    rw [show blankW [] = [] from rfl, if_pos (by simpa using hs)]; rfl
  rw [e, addW_tail ss s h hs]
/-- What is written of a definition. -/
def wrO (d : Df) : Option (List UInt8) := (dfW d).bind (addW [])
theorem wr_may {d : Df} (h : MayD d) : wrO d = if (printL (toksD d)).length ≤ 20000 then some (printL (toksD d)) else none := by
  unfold wrO
  rw [def_words h]
  have hx : ∃ s ss, (toksD d).map txtT = s :: ss ∧ s ≠ [] ∧ s.length ≤ 20000 := by
    unfold toksD
    split
    · exact ⟨w_table, _, rfl, by decide, by decide⟩
    · exact ⟨w_view, _, rfl, by decide, by decide⟩
  obtain ⟨s, ss, h1, h2, h3⟩ := hx
  show addW [] ((toksD d).map txtT) = _
  unfold printL
  rw [h1, addW_join s ss h2 h3]
theorem addW_ge : ∀ (ws : List (List UInt8)) (l q : List UInt8), addW l ws = some q → l.length ≤ q.length
  | [], l, q, h => by
    have h : some l = some q := h
    rw [Option.some.inj h]; exact Nat.le_refl _
  | s :: ss, l, q, h => by
    have h : (if (blankW l).length + s.length ≤ 20000 then addW (blankW l ++ s) ss else none) = some q := h
    split at h
    · have := addW_ge ss _ q h
      have hb : l.length ≤ (blankW l).length := by
        unfold blankW
        split
        · rename_i h0; rw [h0]; exact Nat.le_refl _
        · simp
      rw [List.length_append] at this
      omega
    · cases h
theorem wr_ne {d : Df} {l : List UInt8} (h : wrO d = some l) : l ≠ [] := by
  unfold wrO dfW at h
  rw [catW_add] at h
  unfold chW at h
  split at h
  · rename_i hk
    have hx : ∃ x, dfWs.getD d.k.toNat [] = x ∧ 1 ≤ x.length ∧ x.length ≤ 20 := by
      have : d.k = 0 ∨ d.k = 1 := by have h2 : d.k < ((2 : Nat) : Int) := hk.2; have h1 := hk.1; omega
      rcases this with h | h <;> rw [h] <;> exact ⟨_, rfl, by decide, by decide⟩
    obtain ⟨x, e, h1, h2⟩ := hx
    rw [e, Option.bind_some] at h
    have e2 : addW [] [x] = some x := by
      show (if (blankW []).length + x.length ≤ 20000 then addW (blankW [] ++ x) [] else none) = _
      rw [show blankW [] = [] from rfl, if_pos (by simp; omega)]; rfl
    rw [e2, Option.bind_some] at h
    cases hp : (if d.k = 0 then tbW d.t else vwW d.v) with
    | none => rw [hp] at h; cases h
    | some ws =>
      rw [hp, Option.bind_some] at h
      have := addW_ge ws x l h
      intro e; rw [e, List.length_nil] at this; omega
  · cases h
theorem DfOk.d64 {d : Df} (h : DfOk d) : D64 d := ⟨fun e he x hx => (h.t.chks e he x hx).2.1, fun x hx => (h.v.whr x hx).2.1⟩
/-- How a text is read. -/
def readD (l : List UInt8) : Option Df := (lexL l).bind parseD
/-- The print of a definition: the tokens', if it may be and that is not too long. -/
def PrT (d : Df) (t : List UInt8) : Prop := (MayD d ∧ (printL (toksD d)).length ≤ 20000 ∧ t = printL (toksD d)) ∨ (¬ (MayD d ∧ (printL (toksD d)).length ≤ 20000) ∧ t = [])
theorem PrT.uniq {d : Df} {t u : List UInt8} (h : PrT d t) (k : PrT d u) : t = u := by
  rcases h with ⟨h1, h2, rfl⟩ | ⟨h1, rfl⟩ <;> rcases k with ⟨k1, k2, rfl⟩ | ⟨k1, rfl⟩
  · rfl
  · exact absurd ⟨h1, h2⟩ k1
  · exact absurd ⟨k1, k2⟩ h1
  · rfl
theorem read_may {l : List UInt8} {d : Df} (h : readD l = some d) : MayD d ∧ D64 d ∧ (printL (toksD d)).length ≤ 2 * l.length := by
  unfold readD at h
  cases hs : lexL l with
  | none => rw [hs] at h; cases h
  | some a => rw [hs] at h; exact read_print hs h
/-- What is written and read as it was is the print. -/
theorem wr_yes {d : Df} {l : List UInt8} (h : wrO d = some l) (hr : readD l = some d) : PrT d l := by
  have hm := (read_may hr).1
  rw [wr_may hm] at h
  split at h
  · rename_i hl
    exact .inl ⟨hm, hl, (Option.some.inj h).symm⟩
  · cases h
theorem wr_no {d : Df} (h6 : D64 d) (h : ∀ l, wrO d = some l → readD l ≠ some d) : PrT d [] := by
  refine .inr ⟨fun hm => ?_, rfl⟩
  have := wr_may hm.1
  rw [if_pos hm.2] at this
  exact h _ this (print_read hm.1 h6)
theorem PrT.empty {d : Df} {t : List UInt8} (h : PrT d t) : t = [] ↔ ¬ (MayD d ∧ (printL (toksD d)).length ≤ 20000) := by
  rcases h with ⟨h1, h2, rfl⟩ | ⟨h1, rfl⟩
  · constructor
    · intro he
      exfalso
      have hx : printL (toksD d) ≠ [] := by
        unfold toksD printL
        split <;> (rw [List.map_cons, Lib.join_cons, txt_tW]; simp [w_table, w_view])
      exact hx he
    · intro hn; exact absurd ⟨h1, h2⟩ hn
  · exact ⟨fun _ => h1, fun _ => rfl⟩
end Go.Proofs.YtjgpmnffagdhlaaGreatDoor
namespace Go.Proofs.YtjgpmnffagdhlaaGreatDoor
open Go Go.RowKit
set_option maxRecDepth 100000
theorem Mk.pre {α : Type} {rd : α → List Value} {S N : Nat} {w : World} {g : Nat} {xs : List α} {y : α} (h : Mk w g S N rd (xs ++ [y])) : Mk w g S N rd xs :=
  ⟨h.lt, h.all, h.thaw, fun i x hx => h.at' i x (by rw [List.getElem?_append_left (List.getElem?_eq_some_iff.1 hx).1]; exact hx)⟩
theorem may_size (t : Tk) (hm : mayT t = true) (hk : (t.k == 1) = true) : t.v.s.size ≤ 2000 ∧ t.t = emp := by
  obtain ⟨k, s, v⟩ := t
  simp only [beq_iff_eq] at hk
  subst hk
  unfold mayT at hm
  simp only at *
  rw [if_neg (by decide)] at hm
  simp only [beq_self_eq_true, if_true, Bool.and_eq_true] at hm
  refine ⟨?_, emp_of hm.1⟩
  rcases valid_of_may _ hm.2.2 with ⟨_, _, h⟩ | ⟨_, _, h⟩ | ⟨_, h⟩ | ⟨_, _, h⟩
  · rw [h]; exact Nat.zero_le _
  · rw [h]; exact Nat.zero_le _
  · rw [h]; exact Nat.zero_le _
  · omega
end Go.Proofs.YtjgpmnffagdhlaaGreatDoor
namespace Go.Proofs.YtjgpmnffagdhlaaGreatDoor
open Go Go.RowKit
set_option maxRecDepth 100000
end Go.Proofs.YtjgpmnffagdhlaaGreatDoor
namespace Go.Proofs.YtjgpmnffagdhlaaGreatDoor
open Go Go.RowKit
set_option maxRecDepth 100000
theorem run_eqInT (w : World) (k vk vn k' vk' vn' : Int) (s vs s' vs' : ByteArray) : (Op.equalIn 10000 129 (.agg #[.int .i64 k, .string s, .int .i64 vk, .int .i64 vn, .string vs]) (.agg #[.int .i64 k', .string s', .int .i64 vk', .int .i64 vn', .string vs'])).run Tryz.prog w = .ok (Tk.eq ⟨k, s, vk, vn, vs⟩ ⟨k', s', vk', vn', vs'⟩) w := by
  simp [go_sem, Tryz.underlying129, Tryz.underlying59, Tryz.underlying3, Tryz.underlying9]
  by_cases h1 : k = k' <;> by_cases h2 : s.toList = s'.toList <;> by_cases h3 : vk = vk' <;> by_cases h4 : vn = vn' <;> by_cases h5 : vs.toList = vs'.toList <;> simp [Tk.eq, Val.eq, h1, h2, h3, h4, h5]
theorem run_neT (w : World) (k vk vn k' vk' vn' : Int) (s vs s' vs' : ByteArray) : (binOp .neq 129 (.agg #[.int .i64 k, .string s, .int .i64 vk, .int .i64 vn, .string vs]) (.agg #[.int .i64 k', .string s', .int .i64 vk', .int .i64 vn', .string vs'])).run Tryz.prog w = .ok (.bool !(Tk.eq ⟨k, s, vk, vn, vs⟩ ⟨k', s', vk', vn', vs'⟩)) w := by
  rw [run_neq_struct, run_eqInT]; rfl
instance : DecidableEq Tk := fun _ _ => decidable_of_iff _ Tk.eq_iff
theorem drop_at {α : Type} {l : List α} {k : Nat} {x : α} (hx : l[k]? = some x) : l.drop k = x :: l.drop (k + 1) := by
  have h1 := List.drop_eq_getElem_cons (List.getElem?_eq_some_iff.1 hx).1
  rw [(List.getElem?_eq_some_iff.1 hx).2] at h1
  exact h1
section
attribute [local go_sem ↓] run_neT run_eqV run_neV
end
end Go.Proofs.YtjgpmnffagdhlaaGreatDoor
namespace Go.Proofs.YtjgpmnffagdhlaaGreatDoor
open Go Go.RowKit
set_option maxRecDepth 100000
section
attribute [local go_sem ↓] run_neN run_neC run_neA
set_option maxHeartbeats 1000000 in
theorem eqI_c (A B : Option Addr) (n m c d : Nat) (xs ys : List Int) (w : World) (hn : xs.length = n) (hm : ys.length = m) (hn1 : n ≤ maxLen) (hm1 : m ≤ maxLen) (hs : SlG w A 1 rdI xs) (ks : SlG w B 1 rdI ys) :
    Calls Tryz.prog 130 #[.slice A n c, .slice B m d] w fun e w' => e = .returned (.bool (decide (xs = ys))) ∧ Below w.heap.size w w' := by
  unfold maxLen at hn1 hm1
  obtain ⟨R, hR⟩ : ∃ R, decide (xs = ys) = R := ⟨_, rfl⟩
  rw [hR]
  have HR := Lib.hid hR
  have Hn := Lib.hid hn
  have Hm := Lib.hid hm
  have Hs := Lib.hid hs
  have Ks := Lib.hid ks
  clear hn hm hs ks hR
  by_cases hnm : n = m
  case neg =>
    have hRf : false = R := by
      rw [← HR.out]
      exact (decide_eq_false (fun e => hnm (by rw [← Hn.out, ← Hm.out, e]))).symm
    subst hRf
    clear HR
    have hne : ((n : Int) != (m : Int)) = true := by simpa using (by omega : ¬ (n : Int) = m)
    go_enter Tryz.func130, Tryz.ntmps130
    go_wp2
    go_ret
    exact ⟨rfl, Below.refl _ _⟩
  subst hnm
  go_enter Tryz.func130, Tryz.ntmps130
  go_wp2_with fail
  go_loopw [13] (fun i wr => ∃ k : Nat, k ≤ n ∧ i = .int .i64 k ∧ Hid (Below w.heap.size w wr) ∧ Hid (decide (xs.drop k = ys.drop k) = R)) (fun i _ => n - (intOf i).toNat)
  case atStart => exact ⟨0, Nat.zero_le _, rfl, Below.refl _ _, HR⟩
  case round =>
    obtain ⟨k, hk, rfl, hb, hinv⟩ := hrel
    clear HR
    by_cases hlt : k < n
    · obtain ⟨b, off, x, rfl, hblt, hx, hc⟩ := Hs.out.atS (by rw [Hn.out]; exact hlt)
      obtain ⟨b', off', y, rfl, hblt', hy, hc'⟩ := Ks.out.atS (by rw [Hm.out]; exact hlt)
      have d0 := (hb.out.cell (p := ⟨b, off + k, none⟩) hblt).trans (by have := hc 0 _ rfl; simpa using this)
      have e0 := (hb.out.cell (p := ⟨b', off' + k, none⟩) hblt').trans (by have := hc' 0 _ rfl; simpa using this)
      have l1 : b < wr.heap.size := Nat.lt_of_lt_of_le hblt hb.out.size
      have l2 : b' < wr.heap.size := Nat.lt_of_lt_of_le hblt' hb.out.size
      have hst : (decide (x = y) && decide (xs.drop (k + 1) = ys.drop (k + 1))) = R := by
        rw [← hinv.out, drop_at hx, drop_at hy, Bool.eq_iff_iff]
        simp
      have Hst := Lib.hid hst
      clear hinv hx hy hc hc' hblt hblt' hst
      go_wp2_with fail
      go_region
      have hE : (x != y) = !decide (x = y) := by rw [Bool.eq_iff_iff]; simp
      rw [hE]
      have Hb2 := Lib.hid hb.out.drew
      clear hE
      cases hxy : decide (x = y)
      · have hRf : false = R := by have := Hst.out; rw [hxy, Bool.false_and] at this; exact this
        subst hRf
        clear Hst hxy
        go_wp2
        go_ret
        exact ⟨rfl, Hb2.out⟩
      · have hst : decide (xs.drop (k + 1) = ys.drop (k + 1)) = R := by have := Hst.out; rw [hxy, Bool.true_and] at this; exact this
        have Hst2 := Lib.hid hst
        clear Hst hxy hst
        go_wp2
        go_roundw
        case rel => exact ⟨k + 1, by omega, by go_num, Hb2, Hst2⟩
        case measure => simp [intOf]; omega
    · obtain rfl : k = n := by omega
      have hRt : true = R := by
        have := hinv.out
        rw [show xs.drop k = [] from List.drop_eq_nil_of_le (by rw [Hn.out]; omega), show ys.drop k = [] from List.drop_eq_nil_of_le (by rw [Hm.out]; omega)] at this
        exact this
      subst hRt
      clear hinv
      go_wp2
      go_ret
      exact ⟨rfl, hb.out⟩
set_option maxHeartbeats 1000000 in
theorem eqN_c (A B : Option Addr) (n m c d : Nat) (xs ys : List Nd) (w : World) (hn : xs.length = n) (hm : ys.length = m) (hn1 : n ≤ maxLen) (hm1 : m ≤ maxLen) (hs : SlG w A 5 rdN xs) (ks : SlG w B 5 rdN ys) :
    Calls Tryz.prog 169 #[.slice A n c, .slice B m d] w fun e w' => e = .returned (.bool (decide (xs = ys))) ∧ Below w.heap.size w w' := by
  unfold maxLen at hn1 hm1
  obtain ⟨R, hR⟩ : ∃ R, decide (xs = ys) = R := ⟨_, rfl⟩
  rw [hR]
  have HR := Lib.hid hR
  have Hn := Lib.hid hn
  have Hm := Lib.hid hm
  have Hs := Lib.hid hs
  have Ks := Lib.hid ks
  clear hn hm hs ks hR
  by_cases hnm : n = m
  case neg =>
    have hRf : false = R := by
      rw [← HR.out]
      exact (decide_eq_false (fun e => hnm (by rw [← Hn.out, ← Hm.out, e]))).symm
    subst hRf
    clear HR
    have hne : ((n : Int) != (m : Int)) = true := by simpa using (by omega : ¬ (n : Int) = m)
    go_enter Tryz.func169, Tryz.ntmps169
    go_wp2
    go_ret
    exact ⟨rfl, Below.refl _ _⟩
  subst hnm
  go_enter Tryz.func169, Tryz.ntmps169
  go_wp2_with fail
  go_loopw [13] (fun i wr => ∃ k : Nat, k ≤ n ∧ i = .int .i64 k ∧ Hid (Below w.heap.size w wr) ∧ Hid (decide (xs.drop k = ys.drop k) = R)) (fun i _ => n - (intOf i).toNat)
  case atStart => exact ⟨0, Nat.zero_le _, rfl, Below.refl _ _, HR⟩
  case round =>
    obtain ⟨k, hk, rfl, hb, hinv⟩ := hrel
    clear HR
    by_cases hlt : k < n
    · obtain ⟨b, off, x, rfl, hblt, hx, hc⟩ := Hs.out.atS (by rw [Hn.out]; exact hlt)
      obtain ⟨b', off', y, rfl, hblt', hy, hc'⟩ := Ks.out.atS (by rw [Hm.out]; exact hlt)
      have d0 := (hb.out.cell (p := ⟨b, off + k * 5, none⟩) hblt).trans (by have := hc 0 _ rfl; simpa using this)
      have d1 := (hb.out.cell (p := ⟨b, off + k * 5 + 1, none⟩) hblt).trans (by have := hc 1 _ rfl; simpa using this)
      have d2 := (hb.out.cell (p := ⟨b, off + k * 5 + 2, none⟩) hblt).trans (by have := hc 2 _ rfl; simpa using this)
      have d3 := (hb.out.cell (p := ⟨b, off + k * 5 + 3, none⟩) hblt).trans (by have := hc 3 _ rfl; simpa using this)
      have d4 := (hb.out.cell (p := ⟨b, off + k * 5 + 4, none⟩) hblt).trans (by have := hc 4 _ rfl; simpa using this)
      have e0 := (hb.out.cell (p := ⟨b', off' + k * 5, none⟩) hblt').trans (by have := hc' 0 _ rfl; simpa using this)
      have e1 := (hb.out.cell (p := ⟨b', off' + k * 5 + 1, none⟩) hblt').trans (by have := hc' 1 _ rfl; simpa using this)
      have e2 := (hb.out.cell (p := ⟨b', off' + k * 5 + 2, none⟩) hblt').trans (by have := hc' 2 _ rfl; simpa using this)
      have e3 := (hb.out.cell (p := ⟨b', off' + k * 5 + 3, none⟩) hblt').trans (by have := hc' 3 _ rfl; simpa using this)
      have e4 := (hb.out.cell (p := ⟨b', off' + k * 5 + 4, none⟩) hblt').trans (by have := hc' 4 _ rfl; simpa using this)
      have l1 : b < wr.heap.size := Nat.lt_of_lt_of_le hblt hb.out.size
      have l2 : b' < wr.heap.size := Nat.lt_of_lt_of_le hblt' hb.out.size
      have hst : (decide (x = y) && decide (xs.drop (k + 1) = ys.drop (k + 1))) = R := by
        rw [← hinv.out, drop_at hx, drop_at hy, Bool.eq_iff_iff]
        simp
      have Hst := Lib.hid hst
      clear hinv hx hy hc hc' hblt hblt' hst
      go_wp2_with fail
      go_region
      have hE : Nd.eqB ⟨x.op, x.n, ⟨x.v.k, x.v.n, x.v.s⟩⟩ ⟨y.op, y.n, ⟨y.v.k, y.v.n, y.v.s⟩⟩ = decide (x = y) := rfl
      rw [hE]
      have Hb2 := Lib.hid hb.out.drew
      clear hE
      cases hxy : decide (x = y)
      · have hRf : false = R := by have := Hst.out; rw [hxy, Bool.false_and] at this; exact this
        subst hRf
        clear Hst hxy
        go_wp2
        go_ret
        exact ⟨rfl, Hb2.out⟩
      · have hst : decide (xs.drop (k + 1) = ys.drop (k + 1)) = R := by have := Hst.out; rw [hxy, Bool.true_and] at this; exact this
        have Hst2 := Lib.hid hst
        clear Hst hxy hst
        go_wp2
        go_roundw
        case rel => exact ⟨k + 1, by omega, by go_num, Hb2, Hst2⟩
        case measure => simp [intOf]; omega
    · obtain rfl : k = n := by omega
      have hRt : true = R := by
        have := hinv.out
        rw [show xs.drop k = [] from List.drop_eq_nil_of_le (by rw [Hn.out]; omega), show ys.drop k = [] from List.drop_eq_nil_of_le (by rw [Hm.out]; omega)] at this
        exact this
      subst hRt
      clear hinv
      go_wp2
      go_ret
      exact ⟨rfl, hb.out⟩
set_option maxHeartbeats 1000000 in
theorem eqC_c (A B : Option Addr) (n m c d : Nat) (xs ys : List Cl) (w : World) (hn : xs.length = n) (hm : ys.length = m) (hn1 : n ≤ maxLen) (hm1 : m ≤ maxLen) (hs : SlG w A 6 rdCl xs) (ks : SlG w B 6 rdCl ys) :
    Calls Tryz.prog 127 #[.slice A n c, .slice B m d] w fun e w' => e = .returned (.bool (decide (xs = ys))) ∧ Below w.heap.size w w' := by
  unfold maxLen at hn1 hm1
  obtain ⟨R, hR⟩ : ∃ R, decide (xs = ys) = R := ⟨_, rfl⟩
  rw [hR]
  have HR := Lib.hid hR
  have Hn := Lib.hid hn
  have Hm := Lib.hid hm
  have Hs := Lib.hid hs
  have Ks := Lib.hid ks
  clear hn hm hs ks hR
  by_cases hnm : n = m
  case neg =>
    have hRf : false = R := by
      rw [← HR.out]
      exact (decide_eq_false (fun e => hnm (by rw [← Hn.out, ← Hm.out, e]))).symm
    subst hRf
    clear HR
    have hne : ((n : Int) != (m : Int)) = true := by simpa using (by omega : ¬ (n : Int) = m)
    go_enter Tryz.func127, Tryz.ntmps127
    go_wp2
    go_ret
    exact ⟨rfl, Below.refl _ _⟩
  subst hnm
  go_enter Tryz.func127, Tryz.ntmps127
  go_wp2_with fail
  go_loopw [13] (fun i wr => ∃ k : Nat, k ≤ n ∧ i = .int .i64 k ∧ Hid (Below w.heap.size w wr) ∧ Hid (decide (xs.drop k = ys.drop k) = R)) (fun i _ => n - (intOf i).toNat)
  case atStart => exact ⟨0, Nat.zero_le _, rfl, Below.refl _ _, HR⟩
  case round =>
    obtain ⟨k, hk, rfl, hb, hinv⟩ := hrel
    clear HR
    by_cases hlt : k < n
    · obtain ⟨b, off, x, rfl, hblt, hx, hc⟩ := Hs.out.atS (by rw [Hn.out]; exact hlt)
      obtain ⟨b', off', y, rfl, hblt', hy, hc'⟩ := Ks.out.atS (by rw [Hm.out]; exact hlt)
      have d0 := (hb.out.cell (p := ⟨b, off + k * 6, none⟩) hblt).trans (by have := hc 0 _ rfl; simpa using this)
      have d1 := (hb.out.cell (p := ⟨b, off + k * 6 + 1, none⟩) hblt).trans (by have := hc 1 _ rfl; simpa using this)
      have d2 := (hb.out.cell (p := ⟨b, off + k * 6 + 2, none⟩) hblt).trans (by have := hc 2 _ rfl; simpa using this)
      have d3 := (hb.out.cell (p := ⟨b, off + k * 6 + 3, none⟩) hblt).trans (by have := hc 3 _ rfl; simpa using this)
      have d4 := (hb.out.cell (p := ⟨b, off + k * 6 + 4, none⟩) hblt).trans (by have := hc 4 _ rfl; simpa using this)
      have d5 := (hb.out.cell (p := ⟨b, off + k * 6 + 5, none⟩) hblt).trans (by have := hc 5 _ rfl; simpa using this)
      have e0 := (hb.out.cell (p := ⟨b', off' + k * 6, none⟩) hblt').trans (by have := hc' 0 _ rfl; simpa using this)
      have e1 := (hb.out.cell (p := ⟨b', off' + k * 6 + 1, none⟩) hblt').trans (by have := hc' 1 _ rfl; simpa using this)
      have e2 := (hb.out.cell (p := ⟨b', off' + k * 6 + 2, none⟩) hblt').trans (by have := hc' 2 _ rfl; simpa using this)
      have e3 := (hb.out.cell (p := ⟨b', off' + k * 6 + 3, none⟩) hblt').trans (by have := hc' 3 _ rfl; simpa using this)
      have e4 := (hb.out.cell (p := ⟨b', off' + k * 6 + 4, none⟩) hblt').trans (by have := hc' 4 _ rfl; simpa using this)
      have e5 := (hb.out.cell (p := ⟨b', off' + k * 6 + 5, none⟩) hblt').trans (by have := hc' 5 _ rfl; simpa using this)
      have l1 : b < wr.heap.size := Nat.lt_of_lt_of_le hblt hb.out.size
      have l2 : b' < wr.heap.size := Nat.lt_of_lt_of_le hblt' hb.out.size
      have hst : (decide (x = y) && decide (xs.drop (k + 1) = ys.drop (k + 1))) = R := by
        rw [← hinv.out, drop_at hx, drop_at hy, Bool.eq_iff_iff]
        simp
      have Hst := Lib.hid hst
      clear hinv hx hy hc hc' hblt hblt' hst
      go_wp2_with fail
      go_region
      have hE : Cl.eqB ⟨x.name, x.kind, x.nul, x.uni, x.ref, x.act⟩ ⟨y.name, y.kind, y.nul, y.uni, y.ref, y.act⟩ = decide (x = y) := rfl
      rw [hE]
      have Hb2 := Lib.hid hb.out.drew
      clear hE
      cases hxy : decide (x = y)
      · have hRf : false = R := by have := Hst.out; rw [hxy, Bool.false_and] at this; exact this
        subst hRf
        clear Hst hxy
        go_wp2
        go_ret
        exact ⟨rfl, Hb2.out⟩
      · have hst : decide (xs.drop (k + 1) = ys.drop (k + 1)) = R := by have := Hst.out; rw [hxy, Bool.true_and] at this; exact this
        have Hst2 := Lib.hid hst
        clear Hst hxy hst
        go_wp2
        go_roundw
        case rel => exact ⟨k + 1, by omega, by go_num, Hb2, Hst2⟩
        case measure => simp [intOf]; omega
    · obtain rfl : k = n := by omega
      have hRt : true = R := by
        have := hinv.out
        rw [show xs.drop k = [] from List.drop_eq_nil_of_le (by rw [Hn.out]; omega), show ys.drop k = [] from List.drop_eq_nil_of_le (by rw [Hm.out]; omega)] at this
        exact this
      subst hRt
      clear hinv
      go_wp2
      go_ret
      exact ⟨rfl, hb.out⟩
set_option maxHeartbeats 1000000 in
theorem eqA_c (A B : Option Addr) (n m c d : Nat) (xs ys : List Ag) (w : World) (hn : xs.length = n) (hm : ys.length = m) (hn1 : n ≤ maxLen) (hm1 : m ≤ maxLen) (hs : SlG w A 2 rdAg xs) (ks : SlG w B 2 rdAg ys) :
    Calls Tryz.prog 131 #[.slice A n c, .slice B m d] w fun e w' => e = .returned (.bool (decide (xs = ys))) ∧ Below w.heap.size w w' := by
  unfold maxLen at hn1 hm1
  obtain ⟨R, hR⟩ : ∃ R, decide (xs = ys) = R := ⟨_, rfl⟩
  rw [hR]
  have HR := Lib.hid hR
  have Hn := Lib.hid hn
  have Hm := Lib.hid hm
  have Hs := Lib.hid hs
  have Ks := Lib.hid ks
  clear hn hm hs ks hR
  by_cases hnm : n = m
  case neg =>
    have hRf : false = R := by
      rw [← HR.out]
      exact (decide_eq_false (fun e => hnm (by rw [← Hn.out, ← Hm.out, e]))).symm
    subst hRf
    clear HR
    have hne : ((n : Int) != (m : Int)) = true := by simpa using (by omega : ¬ (n : Int) = m)
    go_enter Tryz.func131, Tryz.ntmps131
    go_wp2
    go_ret
    exact ⟨rfl, Below.refl _ _⟩
  subst hnm
  go_enter Tryz.func131, Tryz.ntmps131
  go_wp2_with fail
  go_loopw [13] (fun i wr => ∃ k : Nat, k ≤ n ∧ i = .int .i64 k ∧ Hid (Below w.heap.size w wr) ∧ Hid (decide (xs.drop k = ys.drop k) = R)) (fun i _ => n - (intOf i).toNat)
  case atStart => exact ⟨0, Nat.zero_le _, rfl, Below.refl _ _, HR⟩
  case round =>
    obtain ⟨k, hk, rfl, hb, hinv⟩ := hrel
    clear HR
    by_cases hlt : k < n
    · obtain ⟨b, off, x, rfl, hblt, hx, hc⟩ := Hs.out.atS (by rw [Hn.out]; exact hlt)
      obtain ⟨b', off', y, rfl, hblt', hy, hc'⟩ := Ks.out.atS (by rw [Hm.out]; exact hlt)
      have d0 := (hb.out.cell (p := ⟨b, off + k * 2, none⟩) hblt).trans (by have := hc 0 _ rfl; simpa using this)
      have d1 := (hb.out.cell (p := ⟨b, off + k * 2 + 1, none⟩) hblt).trans (by have := hc 1 _ rfl; simpa using this)
      have e0 := (hb.out.cell (p := ⟨b', off' + k * 2, none⟩) hblt').trans (by have := hc' 0 _ rfl; simpa using this)
      have e1 := (hb.out.cell (p := ⟨b', off' + k * 2 + 1, none⟩) hblt').trans (by have := hc' 1 _ rfl; simpa using this)
      have l1 : b < wr.heap.size := Nat.lt_of_lt_of_le hblt hb.out.size
      have l2 : b' < wr.heap.size := Nat.lt_of_lt_of_le hblt' hb.out.size
      have hst : (decide (x = y) && decide (xs.drop (k + 1) = ys.drop (k + 1))) = R := by
        rw [← hinv.out, drop_at hx, drop_at hy, Bool.eq_iff_iff]
        simp
      have Hst := Lib.hid hst
      clear hinv hx hy hc hc' hblt hblt' hst
      go_wp2_with fail
      go_region
      have hE : Ag.eqB ⟨x.fn, x.col⟩ ⟨y.fn, y.col⟩ = decide (x = y) := rfl
      rw [hE]
      have Hb2 := Lib.hid hb.out.drew
      clear hE
      cases hxy : decide (x = y)
      · have hRf : false = R := by have := Hst.out; rw [hxy, Bool.false_and] at this; exact this
        subst hRf
        clear Hst hxy
        go_wp2
        go_ret
        exact ⟨rfl, Hb2.out⟩
      · have hst : decide (xs.drop (k + 1) = ys.drop (k + 1)) = R := by have := Hst.out; rw [hxy, Bool.true_and] at this; exact this
        have Hst2 := Lib.hid hst
        clear Hst hxy hst
        go_wp2
        go_roundw
        case rel => exact ⟨k + 1, by omega, by go_num, Hb2, Hst2⟩
        case measure => simp [intOf]; omega
    · obtain rfl : k = n := by omega
      have hRt : true = R := by
        have := hinv.out
        rw [show xs.drop k = [] from List.drop_eq_nil_of_le (by rw [Hn.out]; omega), show ys.drop k = [] from List.drop_eq_nil_of_le (by rw [Hm.out]; omega)] at this
        exact this
      subst hRt
      clear hinv
      go_wp2
      go_ret
      exact ⟨rfl, hb.out⟩
end
end Go.Proofs.YtjgpmnffagdhlaaGreatDoor
namespace Go.Proofs.YtjgpmnffagdhlaaGreatDoor
open Go Go.RowKit
set_option maxRecDepth 100000
set_option maxHeartbeats 1000000 in
theorem smE_c (A B : Option Addr) (n m c d : Nat) (xs ys : List Nd) (w : World) (hn : xs.length = n) (hm : ys.length = m) (hn1 : n ≤ maxLen) (hm1 : m ≤ maxLen) (hs : SlG w A 5 rdN xs) (ks : SlG w B 5 rdN ys) :
    Calls Tryz.prog 129 #[.slice A n c, .slice B m d] w fun e w' => e = .returned (.bool (decide (xs = ys))) ∧ Below w.heap.size w w' := by
  have H := Lib.hid (eqN_c A B n m c d xs ys w hn hm hn1 hm1 hs ks)
  obtain ⟨R, hR⟩ : ∃ R, decide (xs = ys) = R := ⟨_, rfl⟩
  rw [hR] at H ⊢
  clear hn hm hn1 hm1 hs ks hR
  go_enter Tryz.func129, Tryz.ntmps129
  go_wp2_with fail
  refine H.out.mono ?_
  rintro e w1 ⟨rfl, hb⟩
  have Hb := Lib.hid hb
  clear hb H
  go_wp2
  go_ret
  exact ⟨rfl, Hb.out⟩
set_option maxHeartbeats 2000000 in
theorem eqF_c (A B : Option Addr) (n m c d : Nat) (xs ys : List (Sx Nd)) (w : World) (hn : xs.length = n) (hm : ys.length = m) (hn1 : n ≤ maxLen) (hm1 : m ≤ maxLen) (hs : SlG w A 1 rdX xs) (ks : SlG w B 1 rdX ys) (hx : ∀ e ∈ xs, e.In w 5 rdN) (hy : ∀ e ∈ ys, e.In w 5 rdN) :
    Calls Tryz.prog 128 #[.slice A n c, .slice B m d, .func (.func 129) #[] #[]] w fun e w' => e = .returned (.bool (decide (xs.map (·.xs) = ys.map (·.xs)))) ∧ Below w.heap.size w w' := by
  unfold maxLen at hn1 hm1
  obtain ⟨R, hR⟩ : ∃ R, decide (xs.map (·.xs) = ys.map (·.xs)) = R := ⟨_, rfl⟩
  rw [hR]
  have HR := Lib.hid hR
  have Hn := Lib.hid hn
  have Hm := Lib.hid hm
  have Hs := Lib.hid hs
  have Ks := Lib.hid ks
  have Hx := Lib.hid hx
  have Hy := Lib.hid hy
  clear hn hm hs ks hR hx hy
  by_cases hnm : n = m
  case neg =>
    have hRf : false = R := by
      rw [← HR.out]
      exact (decide_eq_false (fun e => hnm (by have := congrArg List.length e; rw [List.length_map, List.length_map, Hn.out, Hm.out] at this; exact this))).symm
    subst hRf
    clear HR
    have hne : ((n : Int) != (m : Int)) = true := by simpa using (by omega : ¬ (n : Int) = m)
    go_enter Tryz.func128, Tryz.ntmps128
    go_wp2
    go_ret
    exact ⟨rfl, Below.refl _ _⟩
  subst hnm
  go_enter Tryz.func128, Tryz.ntmps128
  go_wp2_with fail
  go_loopw [17] (fun i wr => ∃ k : Nat, k ≤ n ∧ i = .int .i64 k ∧ Hid (Below w.heap.size w wr) ∧ Hid (decide ((xs.map (·.xs)).drop k = (ys.map (·.xs)).drop k) = R)) (fun i _ => n - (intOf i).toNat)
  case atStart => exact ⟨0, Nat.zero_le _, rfl, Below.refl _ _, HR⟩
  case round =>
    obtain ⟨q, hq, rfl, hb, hinv⟩ := hrel
    clear HR
    by_cases hlt2 : q < n
    · obtain ⟨b, off, x, rfl, hblt, hx, hc⟩ := Hs.out.atS (by rw [Hn.out]; exact hlt2)
      obtain ⟨b', off', y, rfl, hblt', hy, hc'⟩ := Ks.out.atS (by rw [Hm.out]; exact hlt2)
      have d0 : wr.cell? ⟨b, off + q, none⟩ = some (.slice x.A x.n x.c) := (hb.out.cell (p := ⟨b, off + q, none⟩) hblt).trans (by have := hc 0 _ rfl; simpa using this)
      have e0 : wr.cell? ⟨b', off' + q, none⟩ = some (.slice y.A y.n y.c) := (hb.out.cell (p := ⟨b', off' + q, none⟩) hblt').trans (by have := hc' 0 _ rfl; simpa using this)
      have HX := Lib.hid (((Hx.out x (List.mem_of_getElem? hx)).after hb.out))
      have HY := Lib.hid (((Hy.out y (List.mem_of_getElem? hy)).after hb.out))
      have l1 : b < wr.heap.size := Nat.lt_of_lt_of_le hblt hb.out.size
      have l2 : b' < wr.heap.size := Nat.lt_of_lt_of_le hblt' hb.out.size
      have hst : (decide (x.xs = y.xs) && decide ((xs.map (·.xs)).drop (q + 1) = (ys.map (·.xs)).drop (q + 1))) = R := by
        have ex : (xs.map (·.xs))[q]? = some x.xs := by rw [List.getElem?_map, hx]; rfl
        have ey : (ys.map (·.xs))[q]? = some y.xs := by rw [List.getElem?_map, hy]; rfl
        rw [← hinv.out, drop_at ex, drop_at ey, Bool.eq_iff_iff]
        simp
      have Hst := Lib.hid hst
      clear hinv hx hy hc hc' hblt hblt' hst
      obtain ⟨gA, gn, gc, gs⟩ := x
      obtain ⟨kA, kn, kc, ks⟩ := y
      simp only at *
      have HE := Lib.hid (smE_c gA kA gn kn gc kc gs ks wr HX.out.len HY.out.len HX.out.max HY.out.max HX.out.sl HY.out.sl)
      go_wp2_with fail
      refine HE.out.mono ?_
      rintro e w9 ⟨rfl, hb9⟩
      have Hb2 := Lib.hid (below_via hb.out hb9)
      clear d0 e0 HX HY HE hb9
      obtain ⟨Z, hZ⟩ : ∃ Z, decide (gs = ks) = Z := ⟨_, rfl⟩
      rw [hZ] at Hst ⊢
      clear hZ
      cases Z
      · have hRf : false = R := by have := Hst.out; rw [Bool.false_and] at this; exact this
        subst hRf
        clear Hst
        go_wp2
        go_ret
        exact ⟨rfl, Hb2.out⟩
      · have hst : decide ((xs.map (·.xs)).drop (q + 1) = (ys.map (·.xs)).drop (q + 1)) = R := by have := Hst.out; rw [Bool.true_and] at this; exact this
        have Hst2 := Lib.hid hst
        clear Hst hst
        go_wp2
        go_roundw
        case rel => exact ⟨q + 1, by omega, by go_num, Hb2, Hst2⟩
        case measure => simp [intOf]; omega
    · obtain rfl : q = n := by omega
      have hRt : true = R := by
        have := hinv.out
        rw [show (xs.map (·.xs)).drop q = [] from List.drop_eq_nil_of_le (by rw [List.length_map, Hn.out]; omega), show (ys.map (·.xs)).drop q = [] from List.drop_eq_nil_of_le (by rw [List.length_map, Hm.out]; omega)] at this
        exact this
      subst hRt
      clear hinv
      go_wp2
      go_ret
      exact ⟨rfl, hb.out⟩
end Go.Proofs.YtjgpmnffagdhlaaGreatDoor
namespace Go.Proofs.YtjgpmnffagdhlaaGreatDoor
open Go Go.RowKit
set_option maxRecDepth 100000
section
attribute [local go_sem ↓] run_neN run_neC run_neA
end
end Go.Proofs.YtjgpmnffagdhlaaGreatDoor
namespace Go.Proofs.YtjgpmnffagdhlaaGreatDoor
open Go Go.RowKit
set_option maxRecDepth 100000
attribute [local go_sem ↓] Go.wp_at_zero Go.wp_at_succ
section
attribute [local go_sem ↓] run_neN run_neC run_neA
end
end Go.Proofs.YtjgpmnffagdhlaaGreatDoor
namespace Go.Proofs.YtjgpmnffagdhlaaGreatDoor
open Go Go.RowKit Go
set_option maxRecDepth 100000
attribute [local go_sem ↓] Go.wp_at_zero Go.wp_at_succ
/-- '!=' on pairs of numbers. -/
def onB (a b c d : Int) : Bool := decide (a = c) && decide (b = d)
theorem run_neO (w : World) (a b c d : Int) : (binOp .neq 26 (.agg #[.int .i64 a, .int .i64 b]) (.agg #[.int .i64 c, .int .i64 d])).run Tryz.prog w = .ok (.bool !(onB a b c d)) w := by
  have hi : ∃ i, Tryz.prog.info? 3 = some i := by
    have h : (Tryz.prog.info? 3).isSome = true := by kernel_rfl
    exact Option.isSome_iff_exists.1 h
  obtain ⟨i, hi⟩ := hi
  have hc : Tryz.prog.cellsOf 3 = 1 := by kernel_rfl
  have e : (Op.equalIn (9999 + 1) 26 (.agg #[.int .i64 a, .int .i64 b]) (.agg #[.int .i64 c, .int .i64 d])).run Tryz.prog w = .ok (onB a b c d) w := by
    rw [run_equalIn_array w 9999 _ _ Tryz.underlying26 hi, hc, show List.range 2 = [0, 1] from rfl]
    simp [Op.eqItems, go_sem, Tryz.underlying3]
    unfold onB
    by_cases h1 : a = c <;> by_cases h2 : b = d <;> simp [h1, h2]
  rw [run_neq_struct, e]; rfl
section
attribute [local go_sem ↓] run_neN run_neC run_neA run_neO
/-- A view's cells. -/
def Vm.cells (x : Vm) : Array Value := #[.string x.name, .string x.frm, .string x.wth, .int .i64 x.on0, .int .i64 x.on1, .slice x.whr.A x.whr.n x.whr.c, .slice x.pick.A x.pick.n x.pick.c, .bool x.grp, .slice x.aggs.A x.aggs.n x.aggs.c]
def Bv (w : World) (b : Nat) (x : Vm) : Prop := w.heap[b]? = some (.cells x.cells 32 (0, 0))
theorem Bv.after {w0 w : World} {b : Nat} {x : Vm} (h : Bv w0 b x) (hlt : b < w0.heap.size) (hb : Below w0.heap.size w0 w) : Bv w b x ∧ b < w.heap.size := ⟨(hb.block b hlt).trans h, Nat.lt_of_lt_of_le hlt hb.size⟩
theorem Bv.all {w : World} {b : Nat} {x : Vm} (h : Bv w b x) : w.cell? ⟨b, 0, none⟩ = some (.string x.name) ∧ w.cell? ⟨b, 1, none⟩ = some (.string x.frm) ∧ w.cell? ⟨b, 2, none⟩ = some (.string x.wth) ∧ w.cell? ⟨b, 3, none⟩ = some (.int .i64 x.on0) ∧ w.cell? ⟨b, 4, none⟩ = some (.int .i64 x.on1) ∧
    w.cell? ⟨b, 5, none⟩ = some (.slice x.whr.A x.whr.n x.whr.c) ∧ w.cell? ⟨b, 6, none⟩ = some (.slice x.pick.A x.pick.n x.pick.c) ∧ w.cell? ⟨b, 7, none⟩ = some (.bool x.grp) ∧ w.cell? ⟨b, 8, none⟩ = some (.slice x.aggs.A x.aggs.n x.aggs.c) := by
  unfold Bv at h
  refine ⟨?_, ?_, ?_, ?_, ?_, ?_, ?_, ?_, ?_⟩ <;> simp [World.cell?, h, Vm.cells]
end
end Go.Proofs.YtjgpmnffagdhlaaGreatDoor
namespace Go.Proofs.YtjgpmnffagdhlaaGreatDoor
open Go Go.RowKit Go
set_option maxRecDepth 100000
attribute [local go_sem ↓] Go.wp_at_zero Go.wp_at_succ
/-- A definition's cells. -/
def Dm.cells (x : Dm) : Array Value := #[.int .i64 x.k, .string x.t.name, .slice x.t.cols.A x.t.cols.n x.t.cols.c, .slice x.t.chks.A x.t.chks.n x.t.chks.c, .string x.v.name, .string x.v.frm, .string x.v.wth, .int .i64 x.v.on0, .int .i64 x.v.on1, .slice x.v.whr.A x.v.whr.n x.v.whr.c, .slice x.v.pick.A x.v.pick.n x.v.pick.c, .bool x.v.grp, .slice x.v.aggs.A x.v.aggs.n x.v.aggs.c]
def Bd (w : World) (b : Nat) (x : Dm) : Prop := w.heap[b]? = some (.cells x.cells 34 (0, 0))
theorem Bd.after {w0 w : World} {b : Nat} {x : Dm} (h : Bd w0 b x) (hlt : b < w0.heap.size) (hb : Below w0.heap.size w0 w) : Bd w b x ∧ b < w.heap.size := ⟨(hb.block b hlt).trans h, Nat.lt_of_lt_of_le hlt hb.size⟩
theorem Bd.all {w : World} {b : Nat} {x : Dm} (h : Bd w b x) : w.cell? ⟨b, 0, none⟩ = some (.int .i64 x.k) ∧ w.cell? ⟨b, 1, none⟩ = some (.string x.t.name) ∧ w.cell? ⟨b, 2, none⟩ = some (.slice x.t.cols.A x.t.cols.n x.t.cols.c) ∧ w.cell? ⟨b, 3, none⟩ = some (.slice x.t.chks.A x.t.chks.n x.t.chks.c) ∧
    w.cell? ⟨b, 4, none⟩ = some (.string x.v.name) ∧ w.cell? ⟨b, 5, none⟩ = some (.string x.v.frm) ∧ w.cell? ⟨b, 6, none⟩ = some (.string x.v.wth) ∧ w.cell? ⟨b, 7, none⟩ = some (.int .i64 x.v.on0) ∧ w.cell? ⟨b, 8, none⟩ = some (.int .i64 x.v.on1) ∧
    w.cell? ⟨b, 9, none⟩ = some (.slice x.v.whr.A x.v.whr.n x.v.whr.c) ∧ w.cell? ⟨b, 10, none⟩ = some (.slice x.v.pick.A x.v.pick.n x.v.pick.c) ∧ w.cell? ⟨b, 11, none⟩ = some (.bool x.v.grp) ∧ w.cell? ⟨b, 12, none⟩ = some (.slice x.v.aggs.A x.v.aggs.n x.v.aggs.c) := by
  unfold Bd at h
  refine ⟨?_, ?_, ?_, ?_, ?_, ?_, ?_, ?_, ?_, ?_, ?_, ?_, ?_⟩ <;> simp [World.cell?, h, Dm.cells]
end Go.Proofs.YtjgpmnffagdhlaaGreatDoor
