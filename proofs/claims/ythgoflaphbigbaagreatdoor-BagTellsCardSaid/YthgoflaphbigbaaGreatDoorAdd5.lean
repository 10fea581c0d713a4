/-
  A bag with a row so many times more, as the document has it: of bags whose rows rise. In new memory.
-/
import Derived.Test.YthgoflaphbigbaaGreatDoorAddP
namespace Go.Proofs.YthgoflaphbigbaaGreatDoor
open Go Go.RowKit
set_option maxRecDepth 100000

set_option maxHeartbeats 4000000 in
theorem radd_c (A : Option Addr) (n c : Nat) (cs : List Ct) (r : Hd) (n0 : Int) (w : World) (hB : BgIn w A n cs) (hr : Ct.In w ⟨r, n0⟩) (ha : Asc (pl cs)) (hn : n ≤ 100000) (h64 : ∀ x ∈ cs, -9223372036854775808 ≤ n0 + x.N ∧ n0 + x.N ≤ 9223372036854775807) :
    Calls Tryz.prog 54 #[.slice A n c, .slice r.A r.n r.c, .int .i64 n0] w fun e w' => ∃ A' n' c' cs', e = .returned (.slice A' n' c') ∧ Below w.heap.size w w' ∧ BgIn w' A' n' cs' ∧ pl cs' = addB (pl cs) r.xs n0 := by
  have HB := Lib.hid hB
  have Hr := Lib.hid hr
  have Ha := Lib.hid ha
  have H64 := Lib.hid h64
  have n64 := hr.N64
  simp only [] at n64
  clear hB hr ha h64
  go_enter Tryz.func54, Tryz.ntmps54
  go_wp2_with fail
  go_loopw [7, 8, 9] (fun v l i wr => ∃ (k : Nat) (L : Bool) (ol : List Ct), k ≤ n ∧ i = .int .i64 k ∧ l = .bool L ∧ Hid (Below w.heap.size w wr) ∧ Hid (OwnG wr w.heap.size 36 2 rdC v ol) ∧ Hid (AddSt w cs r n0 k L ol)) (fun _ _ i _ => n - (intOf i).toNat)
  case atStart => exact ⟨0, false, [], Nat.zero_le _, rfl, rfl, Lib.hid (below_one _ _), Lib.hid (OwnG.made w w.heap.size _ #[] 0 (Nat.le_refl _) (Nat.zero_le _) rfl), Lib.hid (AddSt.start w cs r n0)⟩
  case round =>
    obtain ⟨k, L, ol, hk, rfl, rfl, hb, ho, hst⟩ := hrel
    by_cases hlt : k < n
    · have HL : Hid (ol.length ≤ 100000) := Lib.hid (by have := hst.out.len; split at this <;> omega)
      obtain ⟨b, off, x, rfl, hblt, hx, c0, c1⟩ := HB.out.sl.at2 (k := k) (by rw [HB.out.len]; exact hlt)
      have d0 := (hb.out.cell (p := ⟨b, off + k * 2, none⟩) hblt).trans c0
      have d1 := (hb.out.cell (p := ⟨b, off + k * 2 + 1, none⟩) hblt).trans c1
      have l0 : b < wr.heap.size := Nat.lt_of_lt_of_le hblt hb.out.size
      have Hi := Lib.hid (HB.out.each x (List.mem_of_getElem? hx))
      have s64 := H64.out x (List.mem_of_getElem? hx)
      have Hx := Lib.hid hx
      have HS : Hid (∀ w' : World, Below w.heap.size w w' → w'.cell? ⟨b, off + k * 2, none⟩ = some (.slice x.h.A x.h.n x.h.c) ∧ w'.cell? ⟨b, off + k * 2 + 1, none⟩ = some (.int .i64 x.N) ∧ b < w'.heap.size) := Lib.hid fun w' hb' => ⟨(hb'.cell hblt).trans c0, (hb'.cell hblt).trans c1, Nat.lt_of_lt_of_le hblt hb'.size⟩
      clear hx c0 c1 hblt
      obtain ⟨⟨xA, xn, xc, xs⟩, N⟩ := x
      simp only [] at s64
      have hw : IntKind.i64.wrap (n0 + N) = n0 + N := by rw [IntKind.wrap_i64]; omega
      have hi2 := (Hi.out.after hb.out).hd
      have hr2 := (Hr.out.after hb.out).hd
      have HC := Lib.hid (rcompareL_c xA r.A xn r.n xc r.c xs r.xs wr hi2.len hr2.len hi2.max hr2.max hi2.sl hr2.sl)
      clear hi2 hr2
      go_wp2_with fail
      refine HC.out.mono ?_
      rintro e w1 ⟨rfl, hb1⟩
      have d0 := (hb1.cell (p := ⟨b, off + k * 2, none⟩) l0).trans d0
      have d1 := (hb1.cell (p := ⟨b, off + k * 2 + 1, none⟩) l0).trans d1
      have l0 : b < w1.heap.size := Nat.lt_of_lt_of_le l0 hb1.size
      have Ho1 := Lib.hid (ho.out.after hb1)
      have Hb1 := Lib.hid (hb.out.trans (hb1.mono hb.out.size))
      have HRx := Lib.hid (Ct.In.mk (w := w) (c := ⟨r, n0 + N⟩) Hr.out.hd Hr.out.sz Hr.out.n64 s64)
      clear hb1 hb ho HC s64
      rcases cmpL_range xs r.xs with hc | hc | hc
      · obtain rfl : L = false := by
          cases L with
          | false => rfl
          | true => have := hst.out.cmp Hx.out; simp only [hc] at this; cases this
        rw [hc]
        go_wp2_with (at_builtin; go_must (first
          | (refine wpList_appG cOk rfl (.tmp 52) (.tmp 57) rfl w.heap.size _ ol [⟨⟨xA, xn, xc, xs⟩, N⟩] (some ⟨w1.heap.size, 0, none⟩) 1 1 rfl (Ho1.out.alloc _) rfl rfl (SlG.new cOk.len [⟨⟨xA, xn, xc, xs⟩, N⟩] rfl) (by have := HL.out; simp [maxLen]; omega) (by have := HL.out; simp; omega) (by have := Hb1.out.size; simp; omega) ?_
             intro v2 w2 hv hg
             have Hv2 := Lib.hid hv
             have Hb2 := Lib.hid ((Hb1.out.alloc Hb1.out.size _).grown hg (by have := Hb1.out.size; simp; omega) (fun k hk => (Ho1.out.lt k hk).1))
             clear hv hg)))
        go_roundw
        case rel => exact ⟨k + 1, false, _, by omega, by go_num, rfl, Hb2, Hv2, Lib.hid (hst.out.lt Hx.out hc Hi.out)⟩
        case measure => simp [intOf]; omega
      · obtain rfl : L = false := by
          cases L with
          | false => rfl
          | true => have := hst.out.cmp Hx.out; simp only [hc] at this; cases this
        rw [hc]
        cases hs : n0 + N != 0
        · have hs0 : n0 + N = 0 := by simpa using hs
          have Hs0 := Lib.hid hs0
          clear hs0
          go_wp2
          go_roundw
          case rel => exact ⟨k + 1, true, ol, by omega, by go_num, rfl, Hb1, Ho1, Lib.hid (hst.out.eq0 Ha.out Hx.out hc Hs0.out)⟩
          case measure => simp [intOf]; omega
        · have Hs1 : Hid (n0 + N ≠ 0) := Lib.hid (by simpa using hs)
          go_wp2_with (at_builtin; go_must (first
            | (refine wpList_appG cOk rfl (.tmp 44) (.tmp 48) rfl w.heap.size _ ol [⟨r, n0 + N⟩] (some ⟨w1.heap.size, 0, none⟩) 1 1 rfl (Ho1.out.alloc _) rfl rfl (SlG.new cOk.len [⟨r, n0 + N⟩] rfl) (by have := HL.out; simp [maxLen]; omega) (by have := HL.out; simp; omega) (by have := Hb1.out.size; simp; omega) ?_
               intro v2 w2 hv hg
               have Hv2 := Lib.hid hv
               have Hb2 := Lib.hid ((Hb1.out.alloc Hb1.out.size _).grown hg (by have := Hb1.out.size; simp; omega) (fun k hk => (Ho1.out.lt k hk).1))
               clear hv hg)))
          go_roundw
          case rel => exact ⟨k + 1, true, _, by omega, by go_num, rfl, Hb2, Hv2, Lib.hid (hst.out.eq1 Ha.out Hx.out hc Hs1.out HRx.out)⟩
          case measure => simp [intOf]; omega
      · rw [hc]
        cases L with
        | true =>
          go_wp2_with (at_builtin; go_must (first
            | (refine wpList_appG cOk rfl (.tmp 52) (.tmp 57) rfl w.heap.size _ ol [⟨⟨xA, xn, xc, xs⟩, N⟩] (some ⟨w1.heap.size, 0, none⟩) 1 1 rfl (Ho1.out.alloc _) rfl rfl (SlG.new cOk.len [⟨⟨xA, xn, xc, xs⟩, N⟩] rfl) (by have := HL.out; simp [maxLen]; omega) (by have := HL.out; simp; omega) (by have := Hb1.out.size; simp; omega) ?_
               intro v2 w2 hv hg
               have Hv2 := Lib.hid hv
               have Hb2 := Lib.hid ((Hb1.out.alloc Hb1.out.size _).grown hg (by have := Hb1.out.size; simp; omega) (fun k hk => (Ho1.out.lt k hk).1))
               clear hv hg)))
          go_roundw
          case rel => exact ⟨k + 1, true, _, by omega, by go_num, rfl, Hb2, Hv2, Lib.hid (hst.out.laid Hx.out Hi.out)⟩
          case measure => simp [intOf]; omega
        | false =>
          cases hs : n0 != 0
          · have Hs0 : Hid (n0 = 0) := Lib.hid (by simpa using hs)
            go_wp2_with (at_builtin; go_must (first
              | (refine wpList_appG cOk rfl (.tmp 52) (.tmp 57) rfl w.heap.size _ ol [⟨⟨xA, xn, xc, xs⟩, N⟩] (some ⟨w1.heap.size, 0, none⟩) 1 1 rfl (Ho1.out.alloc _) rfl rfl (SlG.new cOk.len [⟨⟨xA, xn, xc, xs⟩, N⟩] rfl) (by have := HL.out; simp [maxLen]; omega) (by have := HL.out; simp; omega) (by have := Hb1.out.size; simp; omega) ?_
                 intro v2 w2 hv hg
                 have Hv2 := Lib.hid hv
                 have Hb2 := Lib.hid ((Hb1.out.alloc Hb1.out.size _).grown hg (by have := Hb1.out.size; simp; omega) (fun k hk => (Ho1.out.lt k hk).1))
                 clear hv hg)))
            go_roundw
            case rel => exact ⟨k + 1, true, _, by omega, by go_num, rfl, Hb2, Hv2, Lib.hid (hst.out.gt0 Ha.out Hx.out hc Hs0.out Hi.out)⟩
            case measure => simp [intOf]; omega
          · have Hs1 : Hid (n0 ≠ 0) := Lib.hid (by simpa using hs)
            go_wp2_with (at_builtin; go_must (first
              | (refine wpList_appG cOk rfl (.tmp 44) (.tmp 48) rfl w.heap.size _ ol [⟨r, n0⟩] (some ⟨w1.heap.size, 0, none⟩) 1 1 rfl (Ho1.out.alloc _) rfl rfl (SlG.new cOk.len [⟨r, n0⟩] rfl) (by have := HL.out; simp [maxLen]; omega) (by have := HL.out; simp; omega) (by have := Hb1.out.size; simp; omega) ?_
                 intro v2 w2 hv hg
                 have Hv2 := Lib.hid hv
                 have Hb2 := Lib.hid ((Hb1.out.alloc Hb1.out.size _).grown hg (by have := Hb1.out.size; simp; omega) (fun k hk => (Ho1.out.lt k hk).1))
                 have e0 := (HS.out w2 Hb2.out).1
                 have e1 := (HS.out w2 Hb2.out).2.1
                 have l2 := (HS.out w2 Hb2.out).2.2
                 clear hv hg)
              | (refine wpList_appG cOk rfl (.tmp 52) (.tmp 57) rfl w.heap.size _ (ol ++ [⟨r, n0⟩]) [⟨⟨xA, xn, xc, xs⟩, N⟩] (some ⟨w2.heap.size, 0, none⟩) 1 1 rfl (Hv2.out.alloc _) rfl rfl (SlG.new cOk.len [⟨⟨xA, xn, xc, xs⟩, N⟩] rfl) (by have := HL.out; simp [maxLen]; omega) (by have := HL.out; simp; omega) (by have := Hb2.out.size; simp; omega) ?_
                 intro v3 w3 hv hg
                 have Hv3 := Lib.hid hv
                 have Hb3 := Lib.hid ((Hb2.out.alloc Hb2.out.size _).grown hg (by have := Hb2.out.size; simp; omega) (fun k hk => (Hv2.out.lt k hk).1))
                 clear hv hg)))
            go_roundw
            case rel => exact ⟨k + 1, true, _, by omega, by go_num, rfl, Hb3, Hv3, Lib.hid (hst.out.gt1 Ha.out Hx.out hc Hs1.out Hr.out Hi.out)⟩
            case measure => simp [intOf]; omega
    · obtain rfl : k = n := by omega
      have HL : Hid (ol.length ≤ 100001) := Lib.hid (by have := hst.out.len; split at this <;> omega)
      have Hnk := Lib.hid (Nat.le_of_eq HB.out.len)
      cases L with
      | true =>
        obtain ⟨A3, c3, rfl, _, _, hs3⟩ := ho.out.sl cOk.len
        have Hs3 := Lib.hid hs3
        have Hm3 : Hid (ol.length ≤ maxLen) := Lib.hid (by have := HL.out; unfold maxLen; omega)
        clear hs3
        obtain ⟨m3, hm3⟩ : ∃ m, ol.length = m := ⟨_, rfl⟩
        rw [hm3]
        have HM := Lib.hid hm3
        clear hm3
        go_wp2
        go_ret
        exact ⟨A3, m3, c3, ol, rfl, hb.out, ⟨HM.out, by rw [← HM.out]; exact Hm3.out, Hs3.out, fun c hc => (hst.out.each c hc).after hb.out⟩, hst.out.done Hnk.out⟩
      | false =>
        cases hs : n0 != 0
        · have Hs0 : Hid (n0 = 0) := Lib.hid (by simpa using hs)
          obtain ⟨A3, c3, rfl, _, _, hs3⟩ := ho.out.sl cOk.len
          have Hs3 := Lib.hid hs3
          have Hm3 : Hid (ol.length ≤ maxLen) := Lib.hid (by have := HL.out; unfold maxLen; omega)
          clear hs3
          obtain ⟨m3, hm3⟩ : ∃ m, ol.length = m := ⟨_, rfl⟩
          rw [hm3]
          have HM := Lib.hid hm3
          clear hm3
          go_wp2
          go_ret
          exact ⟨A3, m3, c3, ol, rfl, hb.out, ⟨HM.out, by rw [← HM.out]; exact Hm3.out, Hs3.out, fun c hc => (hst.out.each c hc).after hb.out⟩, hst.out.done0 Hnk.out Hs0.out⟩
        · have Hs1 : Hid (n0 ≠ 0) := Lib.hid (by simpa using hs)
          go_wp2_with (at_builtin; go_must (first
            | (refine wpList_appG cOk rfl (.tmp 65) (.tmp 69) rfl w.heap.size _ ol [⟨r, n0⟩] (some ⟨wr.heap.size, 0, none⟩) 1 1 rfl (ho.out.alloc _) rfl rfl (SlG.new cOk.len [⟨r, n0⟩] rfl) (by have := HL.out; simp [maxLen]; omega) (by have := HL.out; simp; omega) (by have := hb.out.size; simp; omega) ?_
               intro v2 w2 hv hg
               have Hv2 := Lib.hid hv
               have Hb2 := Lib.hid ((hb.out.alloc hb.out.size _).grown hg (by have := hb.out.size; simp; omega) (fun k hk => (ho.out.lt k hk).1))
               obtain ⟨A3, c3, hv3, _, hm3, hs3⟩ := hv.sl cOk.len
               obtain ⟨m3, hl3⟩ : ∃ m, (ol ++ [(⟨r, n0⟩ : Ct)]).length = m := ⟨_, rfl⟩
               rw [hl3] at hv3
               subst hv3
               have Hs3 := Lib.hid hs3
               have HM := Lib.hid hl3
               clear hv hg hs3 hl3 Hv2)))
          go_ret
          exact ⟨A3, m3, c3, _, rfl, Hb2.out, ⟨HM.out, by rw [← HM.out]; have := HL.out; simp [maxLen]; omega, Hs3.out, fun c hc => (each_snoc hst.out.each Hr.out c hc).after Hb2.out⟩, hst.out.done1 Hnk.out Hs1.out⟩
end Go.Proofs.YthgoflaphbigbaaGreatDoor
