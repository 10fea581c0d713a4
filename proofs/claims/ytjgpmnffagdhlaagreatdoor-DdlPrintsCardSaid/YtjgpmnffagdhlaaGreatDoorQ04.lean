/-
  Part 4 of 9 of what the proof leans on: each part below says what it proves, and of what; no condition besides.
-/
import Derived.Test.YtjgpmnffagdhlaaGreatDoorQ03
import Derived.Deep.RegionHeld2
import Derived.Deep.RegionHeld3
import Derived.ChangeKeysEq
set_option linter.unusedVariables false
set_option linter.unusedSimpArgs false
namespace Go.Proofs.YtjgpmnffagdhlaaGreatDoor
open Go Go.RowKit
set_option maxRecDepth 100000
def chkW (es : List (List Nd)) : List (List UInt8) := es.flatMap fun e => w_check :: exprW e
def tbW (t : Tb) : Option (List (List UInt8)) := catW (some [t.name.data.toList, s_lp]) (catW (listW clW t.cols) (some (s_rp :: chkW t.checks)))
structure TbOk (t : Tb) : Prop where
 name : t.name.size ≤ 4611686018427387904
 cols : ∀ c ∈ t.cols, c.name.size ≤ 4611686018427387904 ∧ c.ref.size ≤ 4611686018427387904
 chks : ∀ e ∈ t.checks, ∀ x ∈ e, NdOk x
set_option maxHeartbeats 16000000 in
theorem table_w (B b : Nat) (l : List UInt8) (t : Tm) (w : World) (hw : Wr w B b l) (hl : l.length ≤ 20000) (hG : Gw B w) (ht : ∀ u, Below B w u → t.In u) (hok : TbOk t.tb) :
 Calls Tryz.prog 83 #[.pointer (some ⟨b, 0, none⟩), t.w] w (WS B b w ((tbW t.tb).bind (addW l))) := by
 obtain ⟨S, hS⟩ : ∃ S, WS B b w ((tbW t.tb).bind (addW l)) = S := ⟨_, rfl⟩
 rw [hS]
 obtain ⟨nm, ⟨cA, cn, cc, cxs⟩, ⟨kA, kn, kc, kxs⟩⟩ := t
 have hwl := hw.lt
 have hwB := hw.le
 obtain ⟨w0, hw0⟩ : ∃ w0, (w.alloc (.cells #[.pointer (some ⟨b, 0, none⟩)] 140)).alloc (.cells #[.string nm, .slice cA cn cc, .slice kA kn kc] 25) = w0 := ⟨_, rfl⟩
 have hsz0 : w0.heap.size = w.heap.size + 1 + 1 := by rw [← hw0]; simp
 have HW0 : Hid (Wr w0 B b l) := Lib.hid (by rw [← hw0]; exact (hw.alloc _).alloc _)
 have HK0 : Hid (Wk B b w w0) := Lib.hid (by rw [← hw0]; exact ((Wk.refl B b w).alloc hwB _).alloc (by simp; omega) _)
 have HP0 : Hid (Bk w0 w.heap.size #[.pointer (some ⟨b, 0, none⟩)] 140) := Lib.hid (by rw [← hw0]; exact (Bk.new w _ _).alloc _)
 have HB0 : Hid (Bk w0 (w.heap.size + 1) #[.string nm, .slice cA cn cc, .slice kA kn kc] 25) := Lib.hid (by
  rw [← hw0]
  have := Bk.new (w.alloc (.cells #[.pointer (some ⟨b, 0, none⟩)] 140)) #[.string nm, .slice cA cn cc, .slice kA kn kc] 25
  simpa using this)
 have hne1 : w.heap.size ≠ b := by omega
 have hne2 : w.heap.size + 1 ≠ b := by omega
 have hb0 := HW0.out.lt
 have hB0 := HW0.out.le
 have p0 : w0.cell? ⟨w.heap.size, 0, none⟩ = some (.pointer (some ⟨b, 0, none⟩)) := HP0.out.cell 0
 have d0 : w0.cell? ⟨w.heap.size + 1, 0, none⟩ = some (.string nm) := HB0.out.cell 0
 have HE0 := Lib.hid (show WS B b w (Option.bind (catW (some [nm.data.toList, s_lp]) (catW (listW clW cxs) (some (s_rp :: chkW (kxs.map (·.xs)))))) (addW l)) = S from hS)
 have HL0 := Lib.hid hl
 have HG := Lib.hid hG
 have HT := Lib.hid ht
 have HO := Lib.hid hok
 clear hS hw hl hG ht hok
 go_enter Tryz.func83, Tryz.ntmps83
 go_wp2_with fail
 rw [← hsz0]
 refine (add_c B b w0.heap.size l [nm.data.toList, s_lp] 2 _ (HW0.out.alloc _) HL0.out (Ws.new w0 b [nm.data.toList, s_lp] _ (by rw [List.map_cons, List.map_cons, List.map_nil, ba_back]; rfl) hb0 _ rfl) rfl (by omega) (by intro s hs; simp only [List.mem_cons, List.not_mem_nil, or_false] at hs; rcases hs with rfl | rfl; exact HO.out.name; decide)).mono ?_
 rintro e w1 hs
 rcases WS.yes (Wk.refl B b _) hs with ⟨rfl, h1, h2⟩ | ⟨rfl, l1, h1, h2, h3, h4⟩
 · refine ⟨rfl, ?_⟩
   rw [← HE0.out, catW_add, show (some [nm.data.toList, s_lp]).bind (addW l) = none from h1]
   exact ⟨rfl, (HK0.out.alloc hB0 _).trans h2⟩
 · have he := HE0.out
   rw [catW_add, show (some [nm.data.toList, s_lp]).bind (addW l) = some l1 from h1] at he
   have he : WS B b w ((catW (listW clW cxs) (some (s_rp :: chkW (kxs.map (·.xs))))).bind (addW l1)) = S := he
   rw [catW_add] at he
   have HE1 := Lib.hid he
   have HW1 := Lib.hid h2
   have HL1 := Lib.hid h3
   have HK1 := Lib.hid ((HK0.out.alloc hB0 _).trans h4)
   have HP1 := Lib.hid (h4.bk (HP0.out.alloc _) hne1 (by decide))
   have HB1 := Lib.hid (h4.bk (HB0.out.alloc _) hne2 (by decide))
   have hb1 := h2.lt
   have hB1 := h2.le
   have hC1 := HB1.out.lt
   have p1 : w1.cell? ⟨w.heap.size, 0, none⟩ = some (.pointer (some ⟨b, 0, none⟩)) := HP1.out.cell 0
   have d1 : w1.cell? ⟨w.heap.size + 1, 1, none⟩ = some (.slice cA cn cc) := HB1.out.cell 1
   clear h1 h2 h3 h4 hs he hw0 p0 d0 HP0 HB0 HW0 HE0
   have HL := Lib.hid (list_w clW cxs B b 120 (.pointer (some ⟨w.heap.size, 0, none⟩)) (.pointer (some ⟨w.heap.size + 1, 0, none⟩)) l1 cn w1 HW1.out HL1.out (HT.out w (Below.refl B w)).cols.len (HT.out w (Below.refl B w)).cols.max (fun k a u lc ha hk hwr hlc => by
    have hu := HT.out u (HK1.out.trans hk).below
    exact colI_w B b _ _ lc cA cn cc cxs u k a ((hk.bk HP1.out hne1 (by decide)).cell 0) ((hk.bk HB1.out hne2 (by decide)).cell 1) hu.cols.sl hu.cols.len hu.cols.max ha hwr hlc (HO.out.cols a (List.mem_of_getElem? ha))) (fun u k => by kernel_rfl))
   go_wp2_with fail
   refine HL.out.mono ?_
   rintro e w2 hs
   rcases WS.yes HK1.out hs with ⟨rfl, h1, h2⟩ | ⟨rfl, l2, h1, h2, h3, h4⟩
   · refine ⟨rfl, ?_⟩
     rw [← HE1.out, h1]
     exact ⟨rfl, h2⟩
   · have hk12 : Wk B b w1 w2 := by
      rcases WS.yes (Wk.refl B b w1) hs with ⟨h, _⟩ | ⟨_, _, _, _, _, h⟩
      · cases h
      · exact h
     have he := HE1.out
     rw [h1] at he
     have he : WS B b w (addW l2 (s_rp :: chkW (kxs.map (·.xs)))) = S := he
     have HE2 := Lib.hid he
     have HW2 := Lib.hid h2
     have HL2 := Lib.hid h3
     have HK2 := Lib.hid h4
     have HP2 := Lib.hid (hk12.bk HP1.out hne1 (by decide))
     have HB2 := Lib.hid (hk12.bk HB1.out hne2 (by decide))
     have hb2 := h2.lt
     have hB2 := h2.le
     have hC2 := HB2.out.lt
     have p2 : w2.cell? ⟨w.heap.size, 0, none⟩ = some (.pointer (some ⟨b, 0, none⟩)) := HP2.out.cell 0
     clear h1 h2 h3 h4 hs he hk12 HP1 HB1 HE1 HW1 HL1 HL p1 d1
     go_wp2_with fail
     refine (add_c B b w2.heap.size l2 [s_rp] 1 _ (HW2.out.alloc _) HL2.out (Ws.new w2 b [s_rp] _ rfl hb2 _ rfl) rfl (by omega) (by intro s hs; simp only [List.mem_singleton] at hs; subst hs; decide)).mono ?_
     rintro e w3 hs
     have hcat : addW l2 (s_rp :: chkW (kxs.map (·.xs))) = (addW l2 [s_rp]).bind fun q => addW q (chkW (kxs.map (·.xs))) := addW_app [s_rp] _ l2
     rcases WS.yes (Wk.refl B b _) hs with ⟨rfl, h1, h2⟩ | ⟨rfl, l3, h1, h2, h3, h4⟩
     · refine ⟨rfl, ?_⟩
       rw [← HE2.out, hcat, h1]
       exact ⟨rfl, (HK2.out.alloc hB2 _).trans h2⟩
     · have he := HE2.out
       rw [hcat, h1] at he
       have he : WS B b w (addW l3 (chkW (kxs.map (·.xs)))) = S := he
       have HE3 := Lib.hid he
       have HW3 := Lib.hid h2
       have HL3 := Lib.hid h3
       have HK3 := Lib.hid ((HK2.out.alloc hB2 _).trans h4)
       have HP3 := Lib.hid (h4.bk (HP2.out.alloc _) hne1 (by decide))
       have HB3 := Lib.hid (h4.bk (HB2.out.alloc _) hne2 (by decide))
       have hb3 := h2.lt
       have hB3 := h2.le
       have hC3 := HB3.out.lt
       have d3 : w3.cell? ⟨w.heap.size + 1, 2, none⟩ = some (.slice kA kn kc) := HB3.out.cell 2
       have Hkn := Lib.hid (HT.out w (Below.refl B w)).chks.len
       have hkm := (HT.out w (Below.refl B w)).chks.max
       unfold maxLen at hkm
       simp only at hkm Hkn
       clear h1 h2 h3 h4 hs he hcat HP2 HB2 HE2 HW2 HL2 p2 HK2
       go_wp2_with fail
       go_loopw [23] (fun i wr => ∃ (k : Nat) (lc : List UInt8), k ≤ kn ∧ i = .int .i64 k ∧ Hid (Wr wr B b lc) ∧ Hid (lc.length ≤ 20000) ∧ Hid (Wk B b w wr) ∧ Hid (Bk wr w.heap.size #[.pointer (some ⟨b, 0, none⟩)] 140) ∧ Hid (WS B b w (addW lc (chkW ((kxs.map (·.xs)).drop k))) = S)) (fun i _ => kn - (intOf i).toNat)
       case atStart => exact ⟨0, l3, Nat.zero_le _, rfl, HW3, HL3, HK3, HP3, HE3⟩
       case round =>
        obtain ⟨k, lc, hk, rfl, hwr, hlc, hkr, hp, he⟩ := hrel
        have hbr := hwr.out.lt
        have hBr := hwr.out.le
        have p0 : wr.cell? ⟨w.heap.size, 0, none⟩ = some (.pointer (some ⟨b, 0, none⟩)) := hp.out.cell 0
        have hpl := hp.out.lt
        by_cases hlt : k < kn
        · obtain ⟨x, hx⟩ : ∃ x, kxs[k]? = some x := ⟨_, List.getElem?_eq_getElem (by rw [Hkn.out]; exact hlt)⟩
          have hin := HT.out wr hkr.out.below
          obtain ⟨g, off, hA, hg, hcell⟩ : ∃ g off, kA = some ⟨g, off, none⟩ ∧ g < wr.heap.size ∧ ∀ i x, kxs[i]? = some x → ∀ j u, (rdX x)[j]? = some u → wr.cell? ⟨g, off + i * 1 + j, none⟩ = some u := by
           rcases hin.chks.sl with h | h
           · have h : kxs = [] := h
             rw [h] at hx; simp at hx
           · exact h
          subst hA
          have e0 : wr.cell? ⟨g, off + k, none⟩ = some (.slice x.A x.n x.c) := by have := hcell k x hx 0 _ rfl; simpa using this
          have hex := hin.each x (List.mem_of_getElem? hx)
          have Hex := Lib.hid hex
          have Hxm := Lib.hid (List.mem_of_getElem? hx)
          have hdr : (kxs.map (·.xs)).drop k = x.xs :: (kxs.map (·.xs)).drop (k + 1) := by
           have hk2 : k < (kxs.map (·.xs)).length := by rw [List.length_map, Hkn.out]; exact hlt
           rw [List.drop_eq_getElem_cons hk2]
           congr 1
           rw [List.getElem_map]
           rw [List.getElem?_eq_getElem (by rw [Hkn.out]; exact hlt)] at hx
           rw [Option.some.inj hx]
          have he2 := he.out
          rw [hdr] at he2
          have he3 : WS B b w (addW lc ([w_check] ++ (exprW x.xs ++ chkW ((kxs.map (·.xs)).drop (k + 1))))) = S := by
           rw [← he2]; congr 2
          rw [addW_app] at he3
          have He := Lib.hid he3
          clear hcell hin hx hex hdr he he2 he3
          go_wp2_with fail
          refine (add_c B b wr.heap.size lc [w_check] 1 _ (hwr.out.alloc _) hlc.out (Ws.new wr b [w_check] _ rfl hbr _ rfl) rfl (by omega) (by intro s hs; simp only [List.mem_singleton] at hs; subst hs; decide)).mono ?_
          rintro e w5 hs
          rcases WS.yes (Wk.refl B b _) hs with ⟨rfl, h1, h2⟩ | ⟨rfl, l5, h1, h2, h3, h4⟩
          · refine ⟨rfl, ?_⟩
            rw [← He.out, h1]
            exact ⟨rfl, (hkr.out.alloc hBr _).trans h2⟩
          · have he := He.out
            rw [h1, Option.bind_some, addW_app] at he
            have HE5 := Lib.hid he
            have HW5 := Lib.hid h2
            have HL5 := Lib.hid h3
            have HK5 := Lib.hid ((hkr.out.alloc hBr _).trans h4)
            have HP5 := Lib.hid (h4.bk (hp.out.alloc _) hne1 (by decide))
            have p5 : w5.cell? ⟨w.heap.size, 0, none⟩ = some (.pointer (some ⟨b, 0, none⟩)) := HP5.out.cell 0
            have hp5 := HP5.out.lt
            clear h1 h2 h3 h4 hs he He hp hwr hlc hkr p0 e0
            go_wp2_with fail
            refine (expr_w B b l5 x.xs x.A x.n x.c w5 HW5.out HL5.out (HG.out.below HK5.out.below) (HO.out.chks x.xs (List.mem_map.2 ⟨x, Hxm.out, rfl⟩)) Hex.out.len Hex.out.max (fun u hu => ((HT.out u (HK5.out.below.trans hu)).each x Hxm.out).sl)).mono ?_
            rintro e w6 hs
            rcases WS.yes (Wk.refl B b _) hs with ⟨rfl, h1, h2⟩ | ⟨rfl, l6, h1, h2, h3, h4⟩
            · refine ⟨rfl, ?_⟩
              rw [← HE5.out, h1]
              exact ⟨rfl, HK5.out.trans h2⟩
            · have he := HE5.out
              rw [h1, Option.bind_some] at he
              have HE6 := Lib.hid he
              have HW6 := Lib.hid h2
              have HL6 := Lib.hid h3
              have HK6 := Lib.hid (HK5.out.trans h4)
              have HP6 := Lib.hid (h4.bk HP5.out hne1 (by decide))
              clear h1 h2 h3 h4 hs he HE5 HW5 HL5 HP5 p5
              go_wp2_with fail
              go_roundw
              case rel => exact ⟨k + 1, l6, hlt, by simp, HW6, HL6, HK6, HP6, HE6⟩
              case measure => simp [intOf]; omega
        · obtain rfl : k = kn := by omega
          have he2 := he.out
          rw [List.drop_eq_nil_of_le (by rw [List.length_map, Hkn.out]; exact Nat.le_refl _)] at he2
          have He := Lib.hid (show WS B b w (some lc) = S from he2)
          clear he he2
          go_wp2
          go_end0
          rw [← He.out]
          exact ⟨rfl, hwr.out, hlc.out, hkr.out⟩
def numW (x : Int) : Option (List (List UInt8)) := some [Lib.itoa x]
def grpW (grp : Bool) (axs : List Ag) : Option (List (List UInt8)) := if grp then catW (some [w_group]) (listW agW axs) else some []
def picW (pxs : List Int) (grp : Bool) (axs : List Ag) : Option (List (List UInt8)) := catW (some [w_pick]) (catW (listW numW pxs) (grpW grp axs))
def whrW (hxs : List Nd) (pxs : List Int) (grp : Bool) (axs : List Ag) : Option (List (List UInt8)) := if hxs = [] then catW (some []) (picW pxs grp axs) else catW (some [w_where]) (catW (some (exprW hxs)) (picW pxs grp axs))
def wthW (wth : ByteArray) (on0 on1 : Int) (p : Option (List (List UInt8))) : Option (List (List UInt8)) := if wth.size = 0 then catW (some []) p else catW (some [w_join, wth.data.toList, w_on, Lib.itoa on0, s_eq, Lib.itoa on1]) p
def vwW (v : Vw) : Option (List (List UInt8)) := catW (some [v.name.data.toList, w_from, v.frm.data.toList]) (wthW v.wth v.on0 v.on1 (whrW v.whr v.pick v.grp v.aggs))
def I64 (x : Int) : Prop := -9223372036854775808 ≤ x ∧ x ≤ 9223372036854775807
structure VwOk (v : Vw) : Prop where
 name : v.name.size ≤ 4611686018427387904
 frm : v.frm.size ≤ 4611686018427387904
 wth : v.wth.size ≤ 4611686018427387904
 on0 : I64 v.on0
 on1 : I64 v.on1
 whr : ∀ x ∈ v.whr, NdOk x
 pick : ∀ x ∈ v.pick, I64 x
 aggs : ∀ a ∈ v.aggs, I64 a.col
def dfWs : List (List UInt8) := [w_table, w_view]
def dfW (d : Df) : Option (List (List UInt8)) := catW (chW d.k dfWs) (if d.k = 0 then tbW d.t else vwW d.v)
structure DfOk (d : Df) : Prop where
 t : TbOk d.t
 v : VwOk d.v
theorem cells9 {w : World} {b : Nat} {a0 a1 a2 a3 a4 a5 a6 a7 a8 : Value} {T : TypeId} (h : Bk w b #[a0, a1, a2, a3, a4, a5, a6, a7, a8] T) : w.cell? ⟨b, 0, none⟩ = some a0 ∧ w.cell? ⟨b, 1, none⟩ = some a1 ∧ w.cell? ⟨b, 2, none⟩ = some a2 ∧ w.cell? ⟨b, 3, none⟩ = some a3 ∧ w.cell? ⟨b, 4, none⟩ = some a4 ∧ w.cell? ⟨b, 5, none⟩ = some a5 ∧ w.cell? ⟨b, 6, none⟩ = some a6 ∧ w.cell? ⟨b, 7, none⟩ = some a7 ∧ w.cell? ⟨b, 8, none⟩ = some a8 :=
 ⟨h.cell 0, h.cell 1, h.cell 2, h.cell 3, h.cell 4, h.cell 5, h.cell 6, h.cell 7, h.cell 8⟩
set_option maxHeartbeats 32000000 in
theorem view_w (B b : Nat) (l0 : List UInt8) (v : Vm) (w : World) (hw : Wr w B b l0) (hl : l0.length ≤ 20000) (hG : Gw B w) (ht : ∀ u, Below B w u → v.In u) (hok : VwOk v.vw) :
 Calls Tryz.prog 84 #[.pointer (some ⟨b, 0, none⟩), v.w] w (WS B b w ((vwW v.vw).bind (addW l0))) := by
 obtain ⟨S, hS⟩ : ∃ S, WS B b w ((vwW v.vw).bind (addW l0)) = S := ⟨_, rfl⟩
 rw [hS]
 obtain ⟨nm, frm, wth, on0, on1, ⟨hA, hn, hc, hxs⟩, ⟨pA, pn, pc, pxs⟩, grp, ⟨aA, an, ac, axs⟩⟩ := v
 have hwl := hw.lt
 have hwB := hw.le
 obtain ⟨w0, hw0⟩ : ∃ w0, (w.alloc (.cells #[.pointer (some ⟨b, 0, none⟩)] 140)).alloc (.cells #[.string nm, .string frm, .string wth, .int .i64 on0, .int .i64 on1, .slice hA hn hc, .slice pA pn pc, .bool grp, .slice aA an ac] 32) = w0 := ⟨_, rfl⟩
 have hsz0 : w0.heap.size = w.heap.size + 1 + 1 := by rw [← hw0]; simp
 have HW0 : Hid (Wr w0 B b l0) := Lib.hid (by rw [← hw0]; exact (hw.alloc _).alloc _)
 have HK0 : Hid (Wk B b w w0) := Lib.hid (by rw [← hw0]; exact ((Wk.refl B b w).alloc hwB _).alloc (by simp; omega) _)
 have HP0 : Hid (Bk w0 w.heap.size #[.pointer (some ⟨b, 0, none⟩)] 140) := Lib.hid (by rw [← hw0]; exact (Bk.new w _ _).alloc _)
 have HB0 : Hid (Bk w0 (w.heap.size + 1) #[.string nm, .string frm, .string wth, .int .i64 on0, .int .i64 on1, .slice hA hn hc, .slice pA pn pc, .bool grp, .slice aA an ac] 32) := Lib.hid (by
  rw [← hw0]
  have := Bk.new (w.alloc (.cells #[.pointer (some ⟨b, 0, none⟩)] 140)) #[.string nm, .string frm, .string wth, .int .i64 on0, .int .i64 on1, .slice hA hn hc, .slice pA pn pc, .bool grp, .slice aA an ac] 32
  simpa using this)
 have hne1 : w.heap.size ≠ b := by omega
 have hne2 : w.heap.size + 1 ≠ b := by omega
 have hb0 := HW0.out.lt
 have hB0 := HW0.out.le
 have p0 : w0.cell? ⟨w.heap.size, 0, none⟩ = some (.pointer (some ⟨b, 0, none⟩)) := HP0.out.cell 0
 have d0 : w0.cell? ⟨w.heap.size + 1, 0, none⟩ = some (.string nm) := HB0.out.cell 0
 have d1 : w0.cell? ⟨w.heap.size + 1, 1, none⟩ = some (.string frm) := HB0.out.cell 1
 have HE0 := Lib.hid (show WS B b w (Option.bind (catW (some [nm.data.toList, w_from, frm.data.toList]) (wthW wth on0 on1 (whrW hxs pxs grp axs))) (addW l0)) = S from hS)
 have HL0 := Lib.hid hl
 have HG := Lib.hid hG
 have HT := Lib.hid ht
 have HO := Lib.hid hok
 clear hS hw hl hG ht hok
 go_enter Tryz.func84, Tryz.ntmps84
 go_wp2_with fail
 rw [← hsz0]
 refine (add_c B b w0.heap.size l0 [nm.data.toList, w_from, frm.data.toList] 3 _ (HW0.out.alloc _) HL0.out (Ws.new w0 b [nm.data.toList, w_from, frm.data.toList] _ (by rw [List.map_cons, List.map_cons, List.map_cons, List.map_nil, ba_back, ba_back]; rfl) hb0 _ rfl) rfl (by omega) (by intro s hs; simp only [List.mem_cons, List.not_mem_nil, or_false] at hs; rcases hs with rfl | rfl | rfl; exact HO.out.name; decide; exact HO.out.frm)).mono ?_
 rintro e w1 hs
 rcases WS.yes (Wk.refl B b _) hs with ⟨rfl, h1, h2⟩ | ⟨rfl, l1, h1, h2, h3, h4⟩
 · refine ⟨rfl, ?_⟩
   rw [← HE0.out, catW_add, show (some [nm.data.toList, w_from, frm.data.toList]).bind (addW l0) = none from h1]
   exact ⟨rfl, (HK0.out.alloc hB0 _).trans h2⟩
 · have he := HE0.out
   rw [catW_add, show (some [nm.data.toList, w_from, frm.data.toList]).bind (addW l0) = some l1 from h1] at he
   have HE1 := Lib.hid (show WS B b w (Option.bind (wthW wth on0 on1 (whrW hxs pxs grp axs)) (addW l1)) = S from he)
   have HK1 := Lib.hid ((HK0.out.alloc hB0 _).trans h4)
   have HW1 := Lib.hid h2
   have HL1 := Lib.hid h3
   have HP1 := Lib.hid (h4.bk (HP0.out.alloc _) hne1 (by decide))
   have HB1 := Lib.hid (h4.bk (HB0.out.alloc _) hne2 (by decide))
   have hb1 := h2.lt
   have hB1 := h2.le
   have hp1 := HP1.out.lt
   have hv1 := HB1.out.lt
   have p1 : w1.cell? ⟨w.heap.size, 0, none⟩ = some (.pointer (some ⟨b, 0, none⟩)) := HP1.out.cell 0
   obtain ⟨d1_0, d1_1, d1_2, d1_3, d1_4, d1_5, d1_6, d1_7, d1_8⟩ := cells9 HB1.out
   clear h1 h2 h3 h4 hs he
   clear hw0 hsz0 HE0 HW0 HL0 HK0 HP0 HB0 p0 d0 d1
   by_cases hwz : wth.size = 0
   · have he := HE1.out
     unfold wthW at he
     rw [if_pos hwz, catW_add] at he
     clear HE1
     have HE1 := Lib.hid (show WS B b w (Option.bind (whrW hxs pxs grp axs) (addW l1)) = S from he)
     clear he
     have hwe := size_eq hwz
     clear hwz
     by_cases hhz : hxs = []
     · have he := HE1.out
       unfold whrW at he
       rw [if_pos hhz, catW_add] at he
       clear HE1
       have HE1 := Lib.hid (show WS B b w (Option.bind (picW pxs grp axs) (addW l1)) = S from he)
       clear he
       have hlen0 : hn = 0 := by have := (HT.out w (Below.refl B w)).whr.len; simp only at this; rw [← this, hhz]; rfl
       subst hlen0
       clear hhz
       have he := HE1.out
       unfold picW at he
       clear HE1
       have HE1 := Lib.hid (show WS B b w (Option.bind (catW (some [w_pick]) (catW (listW numW pxs) (grpW grp axs))) (addW l1)) = S from he)
       clear he
       go_wp2_with fail
       refine (add_c B b w1.heap.size l1 [w_pick] 1 _ (HW1.out.alloc _) HL1.out (Ws.new w1 b [w_pick] _ (rfl) hb1 _ rfl) rfl (by omega) (by intro s hs; simp only [List.mem_singleton] at hs; subst hs; decide)).mono ?_
       rintro e w11 hs
       rcases WS.yes (Wk.refl B b _) hs with ⟨rfl, h1, h2⟩ | ⟨rfl, l11, h1, h2, h3, h4⟩
       · refine ⟨rfl, ?_⟩
         rw [← HE1.out, catW_add, show (some [w_pick]).bind (addW l1) = none from h1]
         exact ⟨rfl, (HK1.out.alloc hB1 _).trans h2⟩
       · have he := HE1.out
         rw [catW_add, show (some [w_pick]).bind (addW l1) = some l11 from h1] at he
         have HE11 := Lib.hid (show WS B b w (Option.bind (catW (listW numW pxs) (grpW grp axs)) (addW l11)) = S from he)
         have HK11 := Lib.hid ((HK1.out.alloc hB1 _).trans h4)
         have HW11 := Lib.hid h2
         have HL11 := Lib.hid h3
         have HP11 := Lib.hid (h4.bk (HP1.out.alloc _) hne1 (by decide))
         have HB11 := Lib.hid (h4.bk (HB1.out.alloc _) hne2 (by decide))
         have hb11 := h2.lt
         have hB11 := h2.le
         have hp11 := HP11.out.lt
         have hv11 := HB11.out.lt
         have p11 : w11.cell? ⟨w.heap.size, 0, none⟩ = some (.pointer (some ⟨b, 0, none⟩)) := HP11.out.cell 0
         obtain ⟨d11_0, d11_1, d11_2, d11_3, d11_4, d11_5, d11_6, d11_7, d11_8⟩ := cells9 HB11.out
         clear h1 h2 h3 h4 hs he
         have HLs := Lib.hid (list_w numW pxs B b 123 (.pointer (some ⟨w.heap.size, 0, none⟩)) (.pointer (some ⟨w.heap.size + 1, 0, none⟩)) l11 pn w11 HW11.out HL11.out (HT.out w (Below.refl B w)).pick.len (HT.out w (Below.refl B w)).pick.max (fun k a u lc ha hk hwr hlc => by
          have hu := HT.out u (HK11.out.trans hk).below
          exact pickI_w B b _ _ lc pA pn pc pxs u k a ((hk.bk HP11.out hne1 (by decide)).cell 0) ((hk.bk HB11.out hne2 (by decide)).cell 6) hu.pick.sl hu.pick.len hu.pick.max ha hwr hlc (HG.out.below (HK11.out.trans hk).below) (HO.out.pick a (List.mem_of_getElem? ha))) (fun u k => by kernel_rfl))
         go_wp2_with fail
         refine HLs.out.mono ?_
         rintro e w12 hs
         clear HLs
         rcases WS.yes (Wk.refl B b _) hs with ⟨rfl, h1, h2⟩ | ⟨rfl, l12, h1, h2, h3, h4⟩
         · refine ⟨rfl, ?_⟩
           rw [← HE11.out, catW_add, h1]
           exact ⟨rfl, HK11.out.trans h2⟩
         · have he := HE11.out
           rw [catW_add, h1] at he
           have HE12 := Lib.hid (show WS B b w (Option.bind (grpW grp axs) (addW l12)) = S from he)
           have HK12 := Lib.hid (HK11.out.trans h4)
           have HW12 := Lib.hid h2
           have HL12 := Lib.hid h3
           have HP12 := Lib.hid (h4.bk (HP11.out) hne1 (by decide))
           have HB12 := Lib.hid (h4.bk (HB11.out) hne2 (by decide))
           have hb12 := h2.lt
           have hB12 := h2.le
           have hp12 := HP12.out.lt
           have hv12 := HB12.out.lt
           have p12 : w12.cell? ⟨w.heap.size, 0, none⟩ = some (.pointer (some ⟨b, 0, none⟩)) := HP12.out.cell 0
           obtain ⟨d12_0, d12_1, d12_2, d12_3, d12_4, d12_5, d12_6, d12_7, d12_8⟩ := cells9 HB12.out
           clear h1 h2 h3 h4 hs he
           cases grp
           · have he := HE12.out
             unfold grpW at he
             clear HE12
             have HE12 := Lib.hid (show WS B b w (some l12) = S from he)
             clear he
             go_wp2
             go_end0
             rw [← HE12.out]
             exact ⟨rfl, HW12.out, HL12.out, HK12.out⟩
           · have he := HE12.out
             unfold grpW at he
             clear HE12
             have HE12 := Lib.hid (show WS B b w (Option.bind (catW (some [w_group]) (listW agW axs)) (addW l12)) = S from he)
             clear he
             go_wp2_with fail
             refine (add_c B b w12.heap.size l12 [w_group] 1 _ (HW12.out.alloc _) HL12.out (Ws.new w12 b [w_group] _ (rfl) hb12 _ rfl) rfl (by omega) (by intro s hs; simp only [List.mem_singleton] at hs; subst hs; decide)).mono ?_
             rintro e w13 hs
             rcases WS.yes (Wk.refl B b _) hs with ⟨rfl, h1, h2⟩ | ⟨rfl, l13, h1, h2, h3, h4⟩
             · refine ⟨rfl, ?_⟩
               rw [← HE12.out, catW_add, show (some [w_group]).bind (addW l12) = none from h1]
               exact ⟨rfl, (HK12.out.alloc hB12 _).trans h2⟩
             · have he := HE12.out
               rw [catW_add, show (some [w_group]).bind (addW l12) = some l13 from h1] at he
               have HE13 := Lib.hid (show WS B b w (Option.bind (listW agW axs) (addW l13)) = S from he)
               have HK13 := Lib.hid ((HK12.out.alloc hB12 _).trans h4)
               have HW13 := Lib.hid h2
               have HL13 := Lib.hid h3
               have HP13 := Lib.hid (h4.bk (HP12.out.alloc _) hne1 (by decide))
               have HB13 := Lib.hid (h4.bk (HB12.out.alloc _) hne2 (by decide))
               have hb13 := h2.lt
               have hB13 := h2.le
               have hp13 := HP13.out.lt
               have hv13 := HB13.out.lt
               have p13 : w13.cell? ⟨w.heap.size, 0, none⟩ = some (.pointer (some ⟨b, 0, none⟩)) := HP13.out.cell 0
               obtain ⟨d13_0, d13_1, d13_2, d13_3, d13_4, d13_5, d13_6, d13_7, d13_8⟩ := cells9 HB13.out
               clear h1 h2 h3 h4 hs he
               have HLs := Lib.hid (list_w agW axs B b 125 (.pointer (some ⟨w.heap.size, 0, none⟩)) (.pointer (some ⟨w.heap.size + 1, 0, none⟩)) l13 an w13 HW13.out HL13.out (HT.out w (Below.refl B w)).aggs.len (HT.out w (Below.refl B w)).aggs.max (fun k a u lc ha hk hwr hlc => by
                have hu := HT.out u (HK13.out.trans hk).below
                exact aggI_w B b _ _ lc aA an ac axs u k a ((hk.bk HP13.out hne1 (by decide)).cell 0) ((hk.bk HB13.out hne2 (by decide)).cell 8) hu.aggs.sl hu.aggs.len hu.aggs.max ha hwr hlc (HG.out.below (HK13.out.trans hk).below) (HO.out.aggs a (List.mem_of_getElem? ha))) (fun u k => by kernel_rfl))
               go_wp2_with fail
               refine HLs.out.mono ?_
               rintro e w14 hs
               clear HLs
               rcases WS.yes (Wk.refl B b _) hs with ⟨rfl, h1, h2⟩ | ⟨rfl, l14, h1, h2, h3, h4⟩
               · refine ⟨rfl, ?_⟩
                 rw [← HE13.out, h1]
                 exact ⟨rfl, HK13.out.trans h2⟩
               · have he := HE13.out
                 rw [h1] at he
                 have HE14 := Lib.hid (show WS B b w (some l14) = S from he)
                 have HK14 := Lib.hid (HK13.out.trans h4)
                 have HW14 := Lib.hid h2
                 have HL14 := Lib.hid h3
                 have HP14 := Lib.hid (h4.bk (HP13.out) hne1 (by decide))
                 have HB14 := Lib.hid (h4.bk (HB13.out) hne2 (by decide))
                 have hb14 := h2.lt
                 have hB14 := h2.le
                 have hp14 := HP14.out.lt
                 have hv14 := HB14.out.lt
                 have p14 : w14.cell? ⟨w.heap.size, 0, none⟩ = some (.pointer (some ⟨b, 0, none⟩)) := HP14.out.cell 0
                 obtain ⟨d14_0, d14_1, d14_2, d14_3, d14_4, d14_5, d14_6, d14_7, d14_8⟩ := cells9 HB14.out
                 clear h1 h2 h3 h4 hs he
                 go_wp2
                 go_end0
                 rw [← HE14.out]
                 exact ⟨rfl, HW14.out, HL14.out, HK14.out⟩
     · have he := HE1.out
       unfold whrW at he
       rw [if_neg hhz] at he
       clear HE1
       have HE1 := Lib.hid (show WS B b w (Option.bind (catW (some [w_where]) (catW (some (exprW hxs)) (picW pxs grp axs))) (addW l1)) = S from he)
       clear he
       have hlen0 : hn > 0 := by have := (HT.out w (Below.refl B w)).whr.len; simp only at this; have h2 : hxs.length ≠ 0 := (by simpa using hhz); omega
       clear hhz
       go_wp2_with fail
       refine (add_c B b w1.heap.size l1 [w_where] 1 _ (HW1.out.alloc _) HL1.out (Ws.new w1 b [w_where] _ (rfl) hb1 _ rfl) rfl (by omega) (by intro s hs; simp only [List.mem_singleton] at hs; subst hs; decide)).mono ?_
       rintro e w15 hs
       rcases WS.yes (Wk.refl B b _) hs with ⟨rfl, h1, h2⟩ | ⟨rfl, l15, h1, h2, h3, h4⟩
       · refine ⟨rfl, ?_⟩
         rw [← HE1.out, catW_add, show (some [w_where]).bind (addW l1) = none from h1]
         exact ⟨rfl, (HK1.out.alloc hB1 _).trans h2⟩
       · have he := HE1.out
         rw [catW_add, show (some [w_where]).bind (addW l1) = some l15 from h1] at he
         have HE15 := Lib.hid (show WS B b w (Option.bind (catW (some (exprW hxs)) (picW pxs grp axs)) (addW l15)) = S from he)
         have HK15 := Lib.hid ((HK1.out.alloc hB1 _).trans h4)
         have HW15 := Lib.hid h2
         have HL15 := Lib.hid h3
         have HP15 := Lib.hid (h4.bk (HP1.out.alloc _) hne1 (by decide))
         have HB15 := Lib.hid (h4.bk (HB1.out.alloc _) hne2 (by decide))
         have hb15 := h2.lt
         have hB15 := h2.le
         have hp15 := HP15.out.lt
         have hv15 := HB15.out.lt
         have p15 : w15.cell? ⟨w.heap.size, 0, none⟩ = some (.pointer (some ⟨b, 0, none⟩)) := HP15.out.cell 0
         obtain ⟨d15_0, d15_1, d15_2, d15_3, d15_4, d15_5, d15_6, d15_7, d15_8⟩ := cells9 HB15.out
         clear h1 h2 h3 h4 hs he
         go_wp2_with fail
         refine (expr_w B b l15 hxs hA hn hc w15 HW15.out HL15.out (HG.out.below HK15.out.below) HO.out.whr (HT.out _ HK15.out.below).whr.len (HT.out _ HK15.out.below).whr.max (fun u hu => (HT.out u (HK15.out.below.trans hu)).whr.sl)).mono ?_
         rintro e w16 hs
         rcases WS.yes (Wk.refl B b _) hs with ⟨rfl, h1, h2⟩ | ⟨rfl, l16, h1, h2, h3, h4⟩
         · refine ⟨rfl, ?_⟩
           rw [← HE15.out, catW_add, show (some (exprW hxs)).bind (addW l15) = none from h1]
           exact ⟨rfl, HK15.out.trans h2⟩
         · have he := HE15.out
           rw [catW_add, show (some (exprW hxs)).bind (addW l15) = some l16 from h1] at he
           have HE16 := Lib.hid (show WS B b w (Option.bind (picW pxs grp axs) (addW l16)) = S from he)
           have HK16 := Lib.hid (HK15.out.trans h4)
           have HW16 := Lib.hid h2
           have HL16 := Lib.hid h3
           have HP16 := Lib.hid (h4.bk (HP15.out) hne1 (by decide))
           have HB16 := Lib.hid (h4.bk (HB15.out) hne2 (by decide))
           have hb16 := h2.lt
           have hB16 := h2.le
           have hp16 := HP16.out.lt
           have hv16 := HB16.out.lt
           have p16 : w16.cell? ⟨w.heap.size, 0, none⟩ = some (.pointer (some ⟨b, 0, none⟩)) := HP16.out.cell 0
           obtain ⟨d16_0, d16_1, d16_2, d16_3, d16_4, d16_5, d16_6, d16_7, d16_8⟩ := cells9 HB16.out
           clear h1 h2 h3 h4 hs he
           have he := HE16.out
           unfold picW at he
           clear HE16
           have HE16 := Lib.hid (show WS B b w (Option.bind (catW (some [w_pick]) (catW (listW numW pxs) (grpW grp axs))) (addW l16)) = S from he)
           clear he
           go_wp2_with fail
           refine (add_c B b w16.heap.size l16 [w_pick] 1 _ (HW16.out.alloc _) HL16.out (Ws.new w16 b [w_pick] _ (rfl) hb16 _ rfl) rfl (by omega) (by intro s hs; simp only [List.mem_singleton] at hs; subst hs; decide)).mono ?_
           rintro e w17 hs
           rcases WS.yes (Wk.refl B b _) hs with ⟨rfl, h1, h2⟩ | ⟨rfl, l17, h1, h2, h3, h4⟩
           · refine ⟨rfl, ?_⟩
             rw [← HE16.out, catW_add, show (some [w_pick]).bind (addW l16) = none from h1]
             exact ⟨rfl, (HK16.out.alloc hB16 _).trans h2⟩
           · have he := HE16.out
             rw [catW_add, show (some [w_pick]).bind (addW l16) = some l17 from h1] at he
             have HE17 := Lib.hid (show WS B b w (Option.bind (catW (listW numW pxs) (grpW grp axs)) (addW l17)) = S from he)
             have HK17 := Lib.hid ((HK16.out.alloc hB16 _).trans h4)
             have HW17 := Lib.hid h2
             have HL17 := Lib.hid h3
             have HP17 := Lib.hid (h4.bk (HP16.out.alloc _) hne1 (by decide))
             have HB17 := Lib.hid (h4.bk (HB16.out.alloc _) hne2 (by decide))
             have hb17 := h2.lt
             have hB17 := h2.le
             have hp17 := HP17.out.lt
             have hv17 := HB17.out.lt
             have p17 : w17.cell? ⟨w.heap.size, 0, none⟩ = some (.pointer (some ⟨b, 0, none⟩)) := HP17.out.cell 0
             obtain ⟨d17_0, d17_1, d17_2, d17_3, d17_4, d17_5, d17_6, d17_7, d17_8⟩ := cells9 HB17.out
             clear h1 h2 h3 h4 hs he
             have HLs := Lib.hid (list_w numW pxs B b 123 (.pointer (some ⟨w.heap.size, 0, none⟩)) (.pointer (some ⟨w.heap.size + 1, 0, none⟩)) l17 pn w17 HW17.out HL17.out (HT.out w (Below.refl B w)).pick.len (HT.out w (Below.refl B w)).pick.max (fun k a u lc ha hk hwr hlc => by
              have hu := HT.out u (HK17.out.trans hk).below
              exact pickI_w B b _ _ lc pA pn pc pxs u k a ((hk.bk HP17.out hne1 (by decide)).cell 0) ((hk.bk HB17.out hne2 (by decide)).cell 6) hu.pick.sl hu.pick.len hu.pick.max ha hwr hlc (HG.out.below (HK17.out.trans hk).below) (HO.out.pick a (List.mem_of_getElem? ha))) (fun u k => by kernel_rfl))
             go_wp2_with fail
             refine HLs.out.mono ?_
             rintro e w18 hs
             clear HLs
             rcases WS.yes (Wk.refl B b _) hs with ⟨rfl, h1, h2⟩ | ⟨rfl, l18, h1, h2, h3, h4⟩
             · refine ⟨rfl, ?_⟩
               rw [← HE17.out, catW_add, h1]
               exact ⟨rfl, HK17.out.trans h2⟩
             · have he := HE17.out
               rw [catW_add, h1] at he
               have HE18 := Lib.hid (show WS B b w (Option.bind (grpW grp axs) (addW l18)) = S from he)
               have HK18 := Lib.hid (HK17.out.trans h4)
               have HW18 := Lib.hid h2
               have HL18 := Lib.hid h3
               have HP18 := Lib.hid (h4.bk (HP17.out) hne1 (by decide))
               have HB18 := Lib.hid (h4.bk (HB17.out) hne2 (by decide))
               have hb18 := h2.lt
               have hB18 := h2.le
               have hp18 := HP18.out.lt
               have hv18 := HB18.out.lt
               have p18 : w18.cell? ⟨w.heap.size, 0, none⟩ = some (.pointer (some ⟨b, 0, none⟩)) := HP18.out.cell 0
               obtain ⟨d18_0, d18_1, d18_2, d18_3, d18_4, d18_5, d18_6, d18_7, d18_8⟩ := cells9 HB18.out
               clear h1 h2 h3 h4 hs he
               cases grp
               · have he := HE18.out
                 unfold grpW at he
                 clear HE18
                 have HE18 := Lib.hid (show WS B b w (some l18) = S from he)
                 clear he
                 go_wp2
                 go_end0
                 rw [← HE18.out]
                 exact ⟨rfl, HW18.out, HL18.out, HK18.out⟩
               · have he := HE18.out
                 unfold grpW at he
                 clear HE18
                 have HE18 := Lib.hid (show WS B b w (Option.bind (catW (some [w_group]) (listW agW axs)) (addW l18)) = S from he)
                 clear he
                 go_wp2_with fail
                 refine (add_c B b w18.heap.size l18 [w_group] 1 _ (HW18.out.alloc _) HL18.out (Ws.new w18 b [w_group] _ (rfl) hb18 _ rfl) rfl (by omega) (by intro s hs; simp only [List.mem_singleton] at hs; subst hs; decide)).mono ?_
                 rintro e w19 hs
                 rcases WS.yes (Wk.refl B b _) hs with ⟨rfl, h1, h2⟩ | ⟨rfl, l19, h1, h2, h3, h4⟩
                 · refine ⟨rfl, ?_⟩
                   rw [← HE18.out, catW_add, show (some [w_group]).bind (addW l18) = none from h1]
                   exact ⟨rfl, (HK18.out.alloc hB18 _).trans h2⟩
                 · have he := HE18.out
                   rw [catW_add, show (some [w_group]).bind (addW l18) = some l19 from h1] at he
                   have HE19 := Lib.hid (show WS B b w (Option.bind (listW agW axs) (addW l19)) = S from he)
                   have HK19 := Lib.hid ((HK18.out.alloc hB18 _).trans h4)
                   have HW19 := Lib.hid h2
                   have HL19 := Lib.hid h3
                   have HP19 := Lib.hid (h4.bk (HP18.out.alloc _) hne1 (by decide))
                   have HB19 := Lib.hid (h4.bk (HB18.out.alloc _) hne2 (by decide))
                   have hb19 := h2.lt
                   have hB19 := h2.le
                   have hp19 := HP19.out.lt
                   have hv19 := HB19.out.lt
                   have p19 : w19.cell? ⟨w.heap.size, 0, none⟩ = some (.pointer (some ⟨b, 0, none⟩)) := HP19.out.cell 0
                   obtain ⟨d19_0, d19_1, d19_2, d19_3, d19_4, d19_5, d19_6, d19_7, d19_8⟩ := cells9 HB19.out
                   clear h1 h2 h3 h4 hs he
                   have HLs := Lib.hid (list_w agW axs B b 125 (.pointer (some ⟨w.heap.size, 0, none⟩)) (.pointer (some ⟨w.heap.size + 1, 0, none⟩)) l19 an w19 HW19.out HL19.out (HT.out w (Below.refl B w)).aggs.len (HT.out w (Below.refl B w)).aggs.max (fun k a u lc ha hk hwr hlc => by
                    have hu := HT.out u (HK19.out.trans hk).below
                    exact aggI_w B b _ _ lc aA an ac axs u k a ((hk.bk HP19.out hne1 (by decide)).cell 0) ((hk.bk HB19.out hne2 (by decide)).cell 8) hu.aggs.sl hu.aggs.len hu.aggs.max ha hwr hlc (HG.out.below (HK19.out.trans hk).below) (HO.out.aggs a (List.mem_of_getElem? ha))) (fun u k => by kernel_rfl))
                   go_wp2_with fail
                   refine HLs.out.mono ?_
                   rintro e w20 hs
                   clear HLs
                   rcases WS.yes (Wk.refl B b _) hs with ⟨rfl, h1, h2⟩ | ⟨rfl, l20, h1, h2, h3, h4⟩
                   · refine ⟨rfl, ?_⟩
                     rw [← HE19.out, h1]
                     exact ⟨rfl, HK19.out.trans h2⟩
                   · have he := HE19.out
                     rw [h1] at he
                     have HE20 := Lib.hid (show WS B b w (some l20) = S from he)
                     have HK20 := Lib.hid (HK19.out.trans h4)
                     have HW20 := Lib.hid h2
                     have HL20 := Lib.hid h3
                     have HP20 := Lib.hid (h4.bk (HP19.out) hne1 (by decide))
                     have HB20 := Lib.hid (h4.bk (HB19.out) hne2 (by decide))
                     have hb20 := h2.lt
                     have hB20 := h2.le
                     have hp20 := HP20.out.lt
                     have hv20 := HB20.out.lt
                     have p20 : w20.cell? ⟨w.heap.size, 0, none⟩ = some (.pointer (some ⟨b, 0, none⟩)) := HP20.out.cell 0
                     obtain ⟨d20_0, d20_1, d20_2, d20_3, d20_4, d20_5, d20_6, d20_7, d20_8⟩ := cells9 HB20.out
                     clear h1 h2 h3 h4 hs he
                     go_wp2
                     go_end0
                     rw [← HE20.out]
                     exact ⟨rfl, HW20.out, HL20.out, HK20.out⟩
   · have he := HE1.out
     unfold wthW at he
     rw [if_neg hwz] at he
     clear HE1
     have HE1 := Lib.hid (show WS B b w (Option.bind (catW (some [w_join, wth.data.toList, w_on, Lib.itoa on0, s_eq, Lib.itoa on1]) (whrW hxs pxs grp axs)) (addW l1)) = S from he)
     clear he
     have hwe := size_ne hwz
     clear hwz
     obtain ⟨u0, hu0⟩ : ∃ u0 : ByteArray, (⟨(Lib.itoa on0).toArray⟩ : ByteArray) = u0 := ⟨_, rfl⟩
     obtain ⟨u1, hu1⟩ : ∃ u1 : ByteArray, (⟨(Lib.itoa on1).toArray⟩ : ByteArray) = u1 := ⟨_, rfl⟩
     have HI0 := Tryz.strconv_Itoa on0 HO.out.on0.1 HO.out.on0.2 w1.drew (HG.out.below (HK1.out.below.drew)).gl.gl.tab
     have HI1 := fun (u : World) (hu : Below B w u) => Tryz.strconv_Itoa on1 HO.out.on1.1 HO.out.on1.2 u (HG.out.below hu).gl.gl.tab
     rw [hu0] at HI0
     simp only [hu1] at HI1
     have HI0 := Lib.hid HI0
     have HI1 := Lib.hid HI1
     have Hu0 := Lib.hid (show ba (Lib.itoa on0) = u0 from hu0)
     have Hu1 := Lib.hid (show ba (Lib.itoa on1) = u1 from hu1)
     have Hl0 := Lib.hid (itoa_len on0 HO.out.on0)
     have Hl1 := Lib.hid (itoa_len on1 HO.out.on1)
     have HSt : Hid (∀ w', Below w1.heap.size w1 w' → (w'.cell? ⟨w.heap.size, 0, none⟩ = some (.pointer (some ⟨b, 0, none⟩)) ∧ w'.cell? ⟨w.heap.size + 1, 2, none⟩ = some (.string wth) ∧ w'.cell? ⟨w.heap.size + 1, 3, none⟩ = some (.int .i64 on0) ∧ w'.cell? ⟨w.heap.size + 1, 4, none⟩ = some (.int .i64 on1))) := Lib.hid fun w' hb => ⟨(hb.cell (p := ⟨w.heap.size, 0, none⟩) hp1).trans p1, (hb.cell (p := ⟨w.heap.size + 1, 2, none⟩) hv1).trans d1_2, (hb.cell (p := ⟨w.heap.size + 1, 3, none⟩) hv1).trans d1_3, (hb.cell (p := ⟨w.heap.size + 1, 4, none⟩) hv1).trans d1_4⟩
     clear hu0 hu1
     go_wp2_with fail
     go_region_held2 (fun w' => (w'.cell? ⟨w.heap.size, 0, none⟩ = some (.pointer (some ⟨b, 0, none⟩)) ∧ w'.cell? ⟨w.heap.size + 1, 2, none⟩ = some (.string wth) ∧ w'.cell? ⟨w.heap.size + 1, 3, none⟩ = some (.int .i64 on0) ∧ w'.cell? ⟨w.heap.size + 1, 4, none⟩ = some (.int .i64 on1)))
      (first
        | exact HSt.out _ HbS.out
        | go_keep)
      (first
        | (go_at_call 104
           with_reducible refine HI0.out.mono ?_
           rintro e w4 ⟨rfl, kk, os, hw4⟩
           have hb4 : Below w1.heap.size w1 w4 := ((Below.refl w1.heap.size w1).drew).trans (show Below w1.drew.heap.size w1.drew w4 by rw [hw4]; exact below_grow w1.drew kk os)
           have HbS := Lib.hid hb4
           have HI1b := Lib.hid (HI1.out w4 (HK1.out.below.trans (hb4.mono hB1)))
           clear hw4 hb4 HI0)
        | (go_at_call 104
           with_reducible refine HI1b.out.mono ?_
           rintro e w5 ⟨rfl, kk, os, hw5⟩
           have hb5 : Below w1.heap.size w1 w5 := HbS.out.trans ((show Below w4.heap.size w4 w5 by rw [hw5]; exact below_grow w4 kk os).mono HbS.out.size)
           clear HbS HI1b
           have HbS := Lib.hid hb5
           have hz5 := hb5.size
           have HW5 := Lib.hid (HW1.out.after hb5)
           have HK5 := Lib.hid (HK1.out.then hb5 (Nat.le_refl _) hB1)
           have HbT := Lib.hid (hb5.alloc hz5 (.cells #[.string ⟨#[106, 111, 105, 110]⟩, .string wth, .string ⟨#[111, 110]⟩, .string u0, .string ⟨#[61]⟩, .string u1] 9))
           clear hw5 hb5)
        | (go_at_call 118
           refine (add_c B b w5.heap.size l1 [w_join, wth.data.toList, w_on, Lib.itoa on0, s_eq, Lib.itoa on1] 6 _ (HW5.out.alloc _) HL1.out (Ws.new w5 b [w_join, wth.data.toList, w_on, Lib.itoa on0, s_eq, Lib.itoa on1] _ (by rw [← Hu0.out, ← Hu1.out, List.map_cons, List.map_cons, ba_back]; rfl) (by omega) _ rfl) rfl (by omega) (by intro s hs; simp only [List.mem_cons, List.not_mem_nil, or_false] at hs; have h0 := Hl0.out; have h1 := Hl1.out; rcases hs with rfl | rfl | rfl | rfl | rfl | rfl; decide; exact HO.out.wth; decide; omega; decide; omega)).mono ?_
           rintro e w2 hs
           rcases WS.yes (Wk.refl B b _) hs with ⟨rfl, h1, h2⟩ | ⟨rfl, l2, h1, h2, h3, h4⟩
           · refine ⟨rfl, ?_⟩
             rw [← HE1.out, catW_add, show (some [w_join, wth.data.toList, w_on, Lib.itoa on0, s_eq, Lib.itoa on1]).bind (addW l1) = none from h1]
             exact ⟨rfl, (HK5.out.alloc (by omega) _).trans h2⟩
           have he := HE1.out
           rw [catW_add, show (some [w_join, wth.data.toList, w_on, Lib.itoa on0, s_eq, Lib.itoa on1]).bind (addW l1) = some l2 from h1] at he
           have HE2 := Lib.hid (show WS B b w (Option.bind (whrW hxs pxs grp axs) (addW l2)) = S from he)
           have HK2 := Lib.hid ((HK5.out.alloc (by omega) _).trans h4)
           have HW2 := Lib.hid h2
           have HL2 := Lib.hid h3
           have HP2 := Lib.hid (h4.bk ((HP1.out.after HbS.out hp1).alloc _) hne1 (by decide))
           have HB2 := Lib.hid (h4.bk ((HB1.out.after HbS.out hv1).alloc _) hne2 (by decide))
           have hb2 := h2.lt
           have hB2 := h2.le
           have hp2 := HP2.out.lt
           have hv2 := HB2.out.lt
           have p2 : w2.cell? ⟨w.heap.size, 0, none⟩ = some (.pointer (some ⟨b, 0, none⟩)) := HP2.out.cell 0
           obtain ⟨d2_0, d2_1, d2_2, d2_3, d2_4, d2_5, d2_6, d2_7, d2_8⟩ := cells9 HB2.out
           clear h1 h2 h3 h4 hs he))
     all_goals
      clear HI0 HI1 HSt
      by_cases hhz : hxs = []
      · have he := HE2.out
        unfold whrW at he
        rw [if_pos hhz, catW_add] at he
        clear HE2
        have HE2 := Lib.hid (show WS B b w (Option.bind (picW pxs grp axs) (addW l2)) = S from he)
        clear he
        have hlen0 : hn = 0 := by have := (HT.out w (Below.refl B w)).whr.len; simp only at this; rw [← this, hhz]; rfl
        subst hlen0
        clear hhz
        have he := HE2.out
        unfold picW at he
        clear HE2
        have HE2 := Lib.hid (show WS B b w (Option.bind (catW (some [w_pick]) (catW (listW numW pxs) (grpW grp axs))) (addW l2)) = S from he)
        clear he
        go_wp2_with fail
        refine (add_c B b w2.heap.size l2 [w_pick] 1 _ (HW2.out.alloc _) HL2.out (Ws.new w2 b [w_pick] _ (rfl) hb2 _ rfl) rfl (by omega) (by intro s hs; simp only [List.mem_singleton] at hs; subst hs; decide)).mono ?_
        rintro e w21 hs
        rcases WS.yes (Wk.refl B b _) hs with ⟨rfl, h1, h2⟩ | ⟨rfl, l21, h1, h2, h3, h4⟩
        · refine ⟨rfl, ?_⟩
          rw [← HE2.out, catW_add, show (some [w_pick]).bind (addW l2) = none from h1]
          exact ⟨rfl, (HK2.out.alloc hB2 _).trans h2⟩
        · have he := HE2.out
          rw [catW_add, show (some [w_pick]).bind (addW l2) = some l21 from h1] at he
          have HE21 := Lib.hid (show WS B b w (Option.bind (catW (listW numW pxs) (grpW grp axs)) (addW l21)) = S from he)
          have HK21 := Lib.hid ((HK2.out.alloc hB2 _).trans h4)
          have HW21 := Lib.hid h2
          have HL21 := Lib.hid h3
          have HP21 := Lib.hid (h4.bk (HP2.out.alloc _) hne1 (by decide))
          have HB21 := Lib.hid (h4.bk (HB2.out.alloc _) hne2 (by decide))
          have hb21 := h2.lt
          have hB21 := h2.le
          have hp21 := HP21.out.lt
          have hv21 := HB21.out.lt
          have p21 : w21.cell? ⟨w.heap.size, 0, none⟩ = some (.pointer (some ⟨b, 0, none⟩)) := HP21.out.cell 0
          obtain ⟨d21_0, d21_1, d21_2, d21_3, d21_4, d21_5, d21_6, d21_7, d21_8⟩ := cells9 HB21.out
          clear h1 h2 h3 h4 hs he
          have HLs := Lib.hid (list_w numW pxs B b 123 (.pointer (some ⟨w.heap.size, 0, none⟩)) (.pointer (some ⟨w.heap.size + 1, 0, none⟩)) l21 pn w21 HW21.out HL21.out (HT.out w (Below.refl B w)).pick.len (HT.out w (Below.refl B w)).pick.max (fun k a u lc ha hk hwr hlc => by
           have hu := HT.out u (HK21.out.trans hk).below
           exact pickI_w B b _ _ lc pA pn pc pxs u k a ((hk.bk HP21.out hne1 (by decide)).cell 0) ((hk.bk HB21.out hne2 (by decide)).cell 6) hu.pick.sl hu.pick.len hu.pick.max ha hwr hlc (HG.out.below (HK21.out.trans hk).below) (HO.out.pick a (List.mem_of_getElem? ha))) (fun u k => by kernel_rfl))
          go_wp2_with fail
          refine HLs.out.mono ?_
          rintro e w22 hs
          clear HLs
          rcases WS.yes (Wk.refl B b _) hs with ⟨rfl, h1, h2⟩ | ⟨rfl, l22, h1, h2, h3, h4⟩
          · refine ⟨rfl, ?_⟩
            rw [← HE21.out, catW_add, h1]
            exact ⟨rfl, HK21.out.trans h2⟩
          · have he := HE21.out
            rw [catW_add, h1] at he
            have HE22 := Lib.hid (show WS B b w (Option.bind (grpW grp axs) (addW l22)) = S from he)
            have HK22 := Lib.hid (HK21.out.trans h4)
            have HW22 := Lib.hid h2
            have HL22 := Lib.hid h3
            have HP22 := Lib.hid (h4.bk (HP21.out) hne1 (by decide))
            have HB22 := Lib.hid (h4.bk (HB21.out) hne2 (by decide))
            have hb22 := h2.lt
            have hB22 := h2.le
            have hp22 := HP22.out.lt
            have hv22 := HB22.out.lt
            have p22 : w22.cell? ⟨w.heap.size, 0, none⟩ = some (.pointer (some ⟨b, 0, none⟩)) := HP22.out.cell 0
            obtain ⟨d22_0, d22_1, d22_2, d22_3, d22_4, d22_5, d22_6, d22_7, d22_8⟩ := cells9 HB22.out
            clear h1 h2 h3 h4 hs he
            cases grp
            · have he := HE22.out
              unfold grpW at he
              clear HE22
              have HE22 := Lib.hid (show WS B b w (some l22) = S from he)
              clear he
              go_wp2
              go_end0
              rw [← HE22.out]
              exact ⟨rfl, HW22.out, HL22.out, HK22.out⟩
            · have he := HE22.out
              unfold grpW at he
              clear HE22
              have HE22 := Lib.hid (show WS B b w (Option.bind (catW (some [w_group]) (listW agW axs)) (addW l22)) = S from he)
              clear he
              go_wp2_with fail
              refine (add_c B b w22.heap.size l22 [w_group] 1 _ (HW22.out.alloc _) HL22.out (Ws.new w22 b [w_group] _ (rfl) hb22 _ rfl) rfl (by omega) (by intro s hs; simp only [List.mem_singleton] at hs; subst hs; decide)).mono ?_
              rintro e w23 hs
              rcases WS.yes (Wk.refl B b _) hs with ⟨rfl, h1, h2⟩ | ⟨rfl, l23, h1, h2, h3, h4⟩
              · refine ⟨rfl, ?_⟩
                rw [← HE22.out, catW_add, show (some [w_group]).bind (addW l22) = none from h1]
                exact ⟨rfl, (HK22.out.alloc hB22 _).trans h2⟩
              · have he := HE22.out
                rw [catW_add, show (some [w_group]).bind (addW l22) = some l23 from h1] at he
                have HE23 := Lib.hid (show WS B b w (Option.bind (listW agW axs) (addW l23)) = S from he)
                have HK23 := Lib.hid ((HK22.out.alloc hB22 _).trans h4)
                have HW23 := Lib.hid h2
                have HL23 := Lib.hid h3
                have HP23 := Lib.hid (h4.bk (HP22.out.alloc _) hne1 (by decide))
                have HB23 := Lib.hid (h4.bk (HB22.out.alloc _) hne2 (by decide))
                have hb23 := h2.lt
                have hB23 := h2.le
                have hp23 := HP23.out.lt
                have hv23 := HB23.out.lt
                have p23 : w23.cell? ⟨w.heap.size, 0, none⟩ = some (.pointer (some ⟨b, 0, none⟩)) := HP23.out.cell 0
                obtain ⟨d23_0, d23_1, d23_2, d23_3, d23_4, d23_5, d23_6, d23_7, d23_8⟩ := cells9 HB23.out
                clear h1 h2 h3 h4 hs he
                have HLs := Lib.hid (list_w agW axs B b 125 (.pointer (some ⟨w.heap.size, 0, none⟩)) (.pointer (some ⟨w.heap.size + 1, 0, none⟩)) l23 an w23 HW23.out HL23.out (HT.out w (Below.refl B w)).aggs.len (HT.out w (Below.refl B w)).aggs.max (fun k a u lc ha hk hwr hlc => by
                 have hu := HT.out u (HK23.out.trans hk).below
                 exact aggI_w B b _ _ lc aA an ac axs u k a ((hk.bk HP23.out hne1 (by decide)).cell 0) ((hk.bk HB23.out hne2 (by decide)).cell 8) hu.aggs.sl hu.aggs.len hu.aggs.max ha hwr hlc (HG.out.below (HK23.out.trans hk).below) (HO.out.aggs a (List.mem_of_getElem? ha))) (fun u k => by kernel_rfl))
                go_wp2_with fail
                refine HLs.out.mono ?_
                rintro e w24 hs
                clear HLs
                rcases WS.yes (Wk.refl B b _) hs with ⟨rfl, h1, h2⟩ | ⟨rfl, l24, h1, h2, h3, h4⟩
                · refine ⟨rfl, ?_⟩
                  rw [← HE23.out, h1]
                  exact ⟨rfl, HK23.out.trans h2⟩
                · have he := HE23.out
                  rw [h1] at he
                  have HE24 := Lib.hid (show WS B b w (some l24) = S from he)
                  have HK24 := Lib.hid (HK23.out.trans h4)
                  have HW24 := Lib.hid h2
                  have HL24 := Lib.hid h3
                  have HP24 := Lib.hid (h4.bk (HP23.out) hne1 (by decide))
                  have HB24 := Lib.hid (h4.bk (HB23.out) hne2 (by decide))
                  have hb24 := h2.lt
                  have hB24 := h2.le
                  have hp24 := HP24.out.lt
                  have hv24 := HB24.out.lt
                  have p24 : w24.cell? ⟨w.heap.size, 0, none⟩ = some (.pointer (some ⟨b, 0, none⟩)) := HP24.out.cell 0
                  obtain ⟨d24_0, d24_1, d24_2, d24_3, d24_4, d24_5, d24_6, d24_7, d24_8⟩ := cells9 HB24.out
                  clear h1 h2 h3 h4 hs he
                  go_wp2
                  go_end0
                  rw [← HE24.out]
                  exact ⟨rfl, HW24.out, HL24.out, HK24.out⟩
      · have he := HE2.out
        unfold whrW at he
        rw [if_neg hhz] at he
        clear HE2
        have HE2 := Lib.hid (show WS B b w (Option.bind (catW (some [w_where]) (catW (some (exprW hxs)) (picW pxs grp axs))) (addW l2)) = S from he)
        clear he
        have hlen0 : hn > 0 := by have := (HT.out w (Below.refl B w)).whr.len; simp only at this; have h2 : hxs.length ≠ 0 := (by simpa using hhz); omega
        clear hhz
        go_wp2_with fail
        refine (add_c B b w2.heap.size l2 [w_where] 1 _ (HW2.out.alloc _) HL2.out (Ws.new w2 b [w_where] _ (rfl) hb2 _ rfl) rfl (by omega) (by intro s hs; simp only [List.mem_singleton] at hs; subst hs; decide)).mono ?_
        rintro e w25 hs
        rcases WS.yes (Wk.refl B b _) hs with ⟨rfl, h1, h2⟩ | ⟨rfl, l25, h1, h2, h3, h4⟩
        · refine ⟨rfl, ?_⟩
          rw [← HE2.out, catW_add, show (some [w_where]).bind (addW l2) = none from h1]
          exact ⟨rfl, (HK2.out.alloc hB2 _).trans h2⟩
        · have he := HE2.out
          rw [catW_add, show (some [w_where]).bind (addW l2) = some l25 from h1] at he
          have HE25 := Lib.hid (show WS B b w (Option.bind (catW (some (exprW hxs)) (picW pxs grp axs)) (addW l25)) = S from he)
          have HK25 := Lib.hid ((HK2.out.alloc hB2 _).trans h4)
          have HW25 := Lib.hid h2
          have HL25 := Lib.hid h3
          have HP25 := Lib.hid (h4.bk (HP2.out.alloc _) hne1 (by decide))
          have HB25 := Lib.hid (h4.bk (HB2.out.alloc _) hne2 (by decide))
          have hb25 := h2.lt
          have hB25 := h2.le
          have hp25 := HP25.out.lt
          have hv25 := HB25.out.lt
          have p25 : w25.cell? ⟨w.heap.size, 0, none⟩ = some (.pointer (some ⟨b, 0, none⟩)) := HP25.out.cell 0
          obtain ⟨d25_0, d25_1, d25_2, d25_3, d25_4, d25_5, d25_6, d25_7, d25_8⟩ := cells9 HB25.out
          clear h1 h2 h3 h4 hs he
          go_wp2_with fail
          refine (expr_w B b l25 hxs hA hn hc w25 HW25.out HL25.out (HG.out.below HK25.out.below) HO.out.whr (HT.out _ HK25.out.below).whr.len (HT.out _ HK25.out.below).whr.max (fun u hu => (HT.out u (HK25.out.below.trans hu)).whr.sl)).mono ?_
          rintro e w26 hs
          rcases WS.yes (Wk.refl B b _) hs with ⟨rfl, h1, h2⟩ | ⟨rfl, l26, h1, h2, h3, h4⟩
          · refine ⟨rfl, ?_⟩
            rw [← HE25.out, catW_add, show (some (exprW hxs)).bind (addW l25) = none from h1]
            exact ⟨rfl, HK25.out.trans h2⟩
          · have he := HE25.out
            rw [catW_add, show (some (exprW hxs)).bind (addW l25) = some l26 from h1] at he
            have HE26 := Lib.hid (show WS B b w (Option.bind (picW pxs grp axs) (addW l26)) = S from he)
            have HK26 := Lib.hid (HK25.out.trans h4)
            have HW26 := Lib.hid h2
            have HL26 := Lib.hid h3
            have HP26 := Lib.hid (h4.bk (HP25.out) hne1 (by decide))
            have HB26 := Lib.hid (h4.bk (HB25.out) hne2 (by decide))
            have hb26 := h2.lt
            have hB26 := h2.le
            have hp26 := HP26.out.lt
            have hv26 := HB26.out.lt
            have p26 : w26.cell? ⟨w.heap.size, 0, none⟩ = some (.pointer (some ⟨b, 0, none⟩)) := HP26.out.cell 0
            obtain ⟨d26_0, d26_1, d26_2, d26_3, d26_4, d26_5, d26_6, d26_7, d26_8⟩ := cells9 HB26.out
            clear h1 h2 h3 h4 hs he
            have he := HE26.out
            unfold picW at he
            clear HE26
            have HE26 := Lib.hid (show WS B b w (Option.bind (catW (some [w_pick]) (catW (listW numW pxs) (grpW grp axs))) (addW l26)) = S from he)
            clear he
            go_wp2_with fail
            refine (add_c B b w26.heap.size l26 [w_pick] 1 _ (HW26.out.alloc _) HL26.out (Ws.new w26 b [w_pick] _ (rfl) hb26 _ rfl) rfl (by omega) (by intro s hs; simp only [List.mem_singleton] at hs; subst hs; decide)).mono ?_
            rintro e w27 hs
            rcases WS.yes (Wk.refl B b _) hs with ⟨rfl, h1, h2⟩ | ⟨rfl, l27, h1, h2, h3, h4⟩
            · refine ⟨rfl, ?_⟩
              rw [← HE26.out, catW_add, show (some [w_pick]).bind (addW l26) = none from h1]
              exact ⟨rfl, (HK26.out.alloc hB26 _).trans h2⟩
            · have he := HE26.out
              rw [catW_add, show (some [w_pick]).bind (addW l26) = some l27 from h1] at he
              have HE27 := Lib.hid (show WS B b w (Option.bind (catW (listW numW pxs) (grpW grp axs)) (addW l27)) = S from he)
              have HK27 := Lib.hid ((HK26.out.alloc hB26 _).trans h4)
              have HW27 := Lib.hid h2
              have HL27 := Lib.hid h3
              have HP27 := Lib.hid (h4.bk (HP26.out.alloc _) hne1 (by decide))
              have HB27 := Lib.hid (h4.bk (HB26.out.alloc _) hne2 (by decide))
              have hb27 := h2.lt
              have hB27 := h2.le
              have hp27 := HP27.out.lt
              have hv27 := HB27.out.lt
              have p27 : w27.cell? ⟨w.heap.size, 0, none⟩ = some (.pointer (some ⟨b, 0, none⟩)) := HP27.out.cell 0
              obtain ⟨d27_0, d27_1, d27_2, d27_3, d27_4, d27_5, d27_6, d27_7, d27_8⟩ := cells9 HB27.out
              clear h1 h2 h3 h4 hs he
              have HLs := Lib.hid (list_w numW pxs B b 123 (.pointer (some ⟨w.heap.size, 0, none⟩)) (.pointer (some ⟨w.heap.size + 1, 0, none⟩)) l27 pn w27 HW27.out HL27.out (HT.out w (Below.refl B w)).pick.len (HT.out w (Below.refl B w)).pick.max (fun k a u lc ha hk hwr hlc => by
               have hu := HT.out u (HK27.out.trans hk).below
               exact pickI_w B b _ _ lc pA pn pc pxs u k a ((hk.bk HP27.out hne1 (by decide)).cell 0) ((hk.bk HB27.out hne2 (by decide)).cell 6) hu.pick.sl hu.pick.len hu.pick.max ha hwr hlc (HG.out.below (HK27.out.trans hk).below) (HO.out.pick a (List.mem_of_getElem? ha))) (fun u k => by kernel_rfl))
              go_wp2_with fail
              refine HLs.out.mono ?_
              rintro e w28 hs
              clear HLs
              rcases WS.yes (Wk.refl B b _) hs with ⟨rfl, h1, h2⟩ | ⟨rfl, l28, h1, h2, h3, h4⟩
              · refine ⟨rfl, ?_⟩
                rw [← HE27.out, catW_add, h1]
                exact ⟨rfl, HK27.out.trans h2⟩
              · have he := HE27.out
                rw [catW_add, h1] at he
                have HE28 := Lib.hid (show WS B b w (Option.bind (grpW grp axs) (addW l28)) = S from he)
                have HK28 := Lib.hid (HK27.out.trans h4)
                have HW28 := Lib.hid h2
                have HL28 := Lib.hid h3
                have HP28 := Lib.hid (h4.bk (HP27.out) hne1 (by decide))
                have HB28 := Lib.hid (h4.bk (HB27.out) hne2 (by decide))
                have hb28 := h2.lt
                have hB28 := h2.le
                have hp28 := HP28.out.lt
                have hv28 := HB28.out.lt
                have p28 : w28.cell? ⟨w.heap.size, 0, none⟩ = some (.pointer (some ⟨b, 0, none⟩)) := HP28.out.cell 0
                obtain ⟨d28_0, d28_1, d28_2, d28_3, d28_4, d28_5, d28_6, d28_7, d28_8⟩ := cells9 HB28.out
                clear h1 h2 h3 h4 hs he
                cases grp
                · have he := HE28.out
                  unfold grpW at he
                  clear HE28
                  have HE28 := Lib.hid (show WS B b w (some l28) = S from he)
                  clear he
                  go_wp2
                  go_end0
                  rw [← HE28.out]
                  exact ⟨rfl, HW28.out, HL28.out, HK28.out⟩
                · have he := HE28.out
                  unfold grpW at he
                  clear HE28
                  have HE28 := Lib.hid (show WS B b w (Option.bind (catW (some [w_group]) (listW agW axs)) (addW l28)) = S from he)
                  clear he
                  go_wp2_with fail
                  refine (add_c B b w28.heap.size l28 [w_group] 1 _ (HW28.out.alloc _) HL28.out (Ws.new w28 b [w_group] _ (rfl) hb28 _ rfl) rfl (by omega) (by intro s hs; simp only [List.mem_singleton] at hs; subst hs; decide)).mono ?_
                  rintro e w29 hs
                  rcases WS.yes (Wk.refl B b _) hs with ⟨rfl, h1, h2⟩ | ⟨rfl, l29, h1, h2, h3, h4⟩
                  · refine ⟨rfl, ?_⟩
                    rw [← HE28.out, catW_add, show (some [w_group]).bind (addW l28) = none from h1]
                    exact ⟨rfl, (HK28.out.alloc hB28 _).trans h2⟩
                  · have he := HE28.out
                    rw [catW_add, show (some [w_group]).bind (addW l28) = some l29 from h1] at he
                    have HE29 := Lib.hid (show WS B b w (Option.bind (listW agW axs) (addW l29)) = S from he)
                    have HK29 := Lib.hid ((HK28.out.alloc hB28 _).trans h4)
                    have HW29 := Lib.hid h2
                    have HL29 := Lib.hid h3
                    have HP29 := Lib.hid (h4.bk (HP28.out.alloc _) hne1 (by decide))
                    have HB29 := Lib.hid (h4.bk (HB28.out.alloc _) hne2 (by decide))
                    have hb29 := h2.lt
                    have hB29 := h2.le
                    have hp29 := HP29.out.lt
                    have hv29 := HB29.out.lt
                    have p29 : w29.cell? ⟨w.heap.size, 0, none⟩ = some (.pointer (some ⟨b, 0, none⟩)) := HP29.out.cell 0
                    obtain ⟨d29_0, d29_1, d29_2, d29_3, d29_4, d29_5, d29_6, d29_7, d29_8⟩ := cells9 HB29.out
                    clear h1 h2 h3 h4 hs he
                    have HLs := Lib.hid (list_w agW axs B b 125 (.pointer (some ⟨w.heap.size, 0, none⟩)) (.pointer (some ⟨w.heap.size + 1, 0, none⟩)) l29 an w29 HW29.out HL29.out (HT.out w (Below.refl B w)).aggs.len (HT.out w (Below.refl B w)).aggs.max (fun k a u lc ha hk hwr hlc => by
                     have hu := HT.out u (HK29.out.trans hk).below
                     exact aggI_w B b _ _ lc aA an ac axs u k a ((hk.bk HP29.out hne1 (by decide)).cell 0) ((hk.bk HB29.out hne2 (by decide)).cell 8) hu.aggs.sl hu.aggs.len hu.aggs.max ha hwr hlc (HG.out.below (HK29.out.trans hk).below) (HO.out.aggs a (List.mem_of_getElem? ha))) (fun u k => by kernel_rfl))
                    go_wp2_with fail
                    refine HLs.out.mono ?_
                    rintro e w30 hs
                    clear HLs
                    rcases WS.yes (Wk.refl B b _) hs with ⟨rfl, h1, h2⟩ | ⟨rfl, l30, h1, h2, h3, h4⟩
                    · refine ⟨rfl, ?_⟩
                      rw [← HE29.out, h1]
                      exact ⟨rfl, HK29.out.trans h2⟩
                    · have he := HE29.out
                      rw [h1] at he
                      have HE30 := Lib.hid (show WS B b w (some l30) = S from he)
                      have HK30 := Lib.hid (HK29.out.trans h4)
                      have HW30 := Lib.hid h2
                      have HL30 := Lib.hid h3
                      have HP30 := Lib.hid (h4.bk (HP29.out) hne1 (by decide))
                      have HB30 := Lib.hid (h4.bk (HB29.out) hne2 (by decide))
                      have hb30 := h2.lt
                      have hB30 := h2.le
                      have hp30 := HP30.out.lt
                      have hv30 := HB30.out.lt
                      have p30 : w30.cell? ⟨w.heap.size, 0, none⟩ = some (.pointer (some ⟨b, 0, none⟩)) := HP30.out.cell 0
                      obtain ⟨d30_0, d30_1, d30_2, d30_3, d30_4, d30_5, d30_6, d30_7, d30_8⟩ := cells9 HB30.out
                      clear h1 h2 h3 h4 hs he
                      go_wp2
                      go_end0
                      rw [← HE30.out]
                      exact ⟨rfl, HW30.out, HL30.out, HK30.out⟩
set_option maxHeartbeats 8000000 in
theorem def_w (B b : Nat) (l : List UInt8) (d : Dm) (w : World) (hw : Wr w B b l) (hl : l.length ≤ 20000) (hG : Gw B w) (ht : ∀ u, Below B w u → d.In u) (hok : DfOk d.df) :
 Calls Tryz.prog 54 #[.pointer (some ⟨b, 0, none⟩), d.w] w (WS B b w ((dfW d.df).bind (addW l))) := by
 obtain ⟨S, hS⟩ : ∃ S, WS B b w ((dfW d.df).bind (addW l)) = S := ⟨_, rfl⟩
 rw [hS]
 obtain ⟨k, t, v⟩ := d
 have hwl := hw.lt
 have hwB := hw.le
 obtain ⟨w0, hw0⟩ : ∃ w0, w.alloc (.cells #[.int .i64 k, .string t.name, .slice t.cols.A t.cols.n t.cols.c, .slice t.chks.A t.chks.n t.chks.c, .string v.name, .string v.frm, .string v.wth, .int .i64 v.on0, .int .i64 v.on1, .slice v.whr.A v.whr.n v.whr.c, .slice v.pick.A v.pick.n v.pick.c, .bool v.grp, .slice v.aggs.A v.aggs.n v.aggs.c] 34) = w0 := ⟨_, rfl⟩
 have hsz0 : w0.heap.size = w.heap.size + 1 := by rw [← hw0]; simp
 have HW0 : Hid (Wr w0 B b l) := Lib.hid (by rw [← hw0]; exact hw.alloc _)
 have HK0 : Hid (Wk B b w w0) := Lib.hid (by rw [← hw0]; exact (Wk.refl B b w).alloc hwB _)
 have HB0 : Hid (Bk w0 w.heap.size #[.int .i64 k, .string t.name, .slice t.cols.A t.cols.n t.cols.c, .slice t.chks.A t.chks.n t.chks.c, .string v.name, .string v.frm, .string v.wth, .int .i64 v.on0, .int .i64 v.on1, .slice v.whr.A v.whr.n v.whr.c, .slice v.pick.A v.pick.n v.pick.c, .bool v.grp, .slice v.aggs.A v.aggs.n v.aggs.c] 34) := Lib.hid (by rw [← hw0]; exact Bk.new w _ _)
 have hne1 : w.heap.size ≠ b := by omega
 have hb0 := HW0.out.lt
 have hB0 := HW0.out.le
 have d0 : w0.cell? ⟨w.heap.size, 0, none⟩ = some (.int .i64 k) := HB0.out.cell 0
 have HE0 : Hid (WS B b w (((chW k dfWs).bind (addW l)).bind fun q => (if k = 0 then tbW t.tb else vwW v.vw).bind (addW q)) = S) := Lib.hid (by rw [← hS, ← catW_add]; rfl)
 have HL0 := Lib.hid hl
 have HG := Lib.hid hG
 have HT := Lib.hid ht
 have HO := Lib.hid hok
 clear hS hw hl hG ht hok
 go_enter Tryz.func54, Tryz.ntmps54
 go_wp2_with fail
 rw [← hsz0]
 refine (choice_w B b w0.heap.size l k dfWs 2 _ (HW0.out.alloc _) HL0.out (Ws.new w0 b dfWs _ rfl hb0 _ rfl) rfl (by omega) (by intro s hs; simp [dfWs] at hs; rcases hs with rfl | rfl <;> decide)).mono ?_
 rintro e w1 hs
 rcases WS.yes (Wk.refl B b _) hs with ⟨rfl, h1, h2⟩ | ⟨rfl, l1, h1, h2, h3, h4⟩
 · refine ⟨rfl, ?_⟩
   rw [← HE0.out, h1]
   exact ⟨rfl, (HK0.out.alloc hB0 _).trans h2⟩
 · have he := HE0.out
   rw [h1, Option.bind_some] at he
   have HW1 := Lib.hid h2
   have HL1 := Lib.hid h3
   have HK1 := Lib.hid ((HK0.out.alloc hB0 _).trans h4)
   have HB1 := Lib.hid (h4.bk (HB0.out.alloc _) hne1 (by decide))
   have hb1 := h2.lt
   have hB1 := h2.le
   have hC1 := HB1.out.lt
   have d1_0 : w1.cell? ⟨w.heap.size, 0, none⟩ = some (.int .i64 k) := HB1.out.cell 0
   have d1_1 : w1.cell? ⟨w.heap.size, 1, none⟩ = some (.string t.name) := HB1.out.cell 1
   have d1_2 : w1.cell? ⟨w.heap.size, 2, none⟩ = some (.slice t.cols.A t.cols.n t.cols.c) := HB1.out.cell 2
   have d1_3 : w1.cell? ⟨w.heap.size, 3, none⟩ = some (.slice t.chks.A t.chks.n t.chks.c) := HB1.out.cell 3
   have d1_4 : w1.cell? ⟨w.heap.size, 4, none⟩ = some (.string v.name) := HB1.out.cell 4
   have d1_5 : w1.cell? ⟨w.heap.size, 5, none⟩ = some (.string v.frm) := HB1.out.cell 5
   have d1_6 : w1.cell? ⟨w.heap.size, 6, none⟩ = some (.string v.wth) := HB1.out.cell 6
   have d1_7 : w1.cell? ⟨w.heap.size, 7, none⟩ = some (.int .i64 v.on0) := HB1.out.cell 7
   have d1_8 : w1.cell? ⟨w.heap.size, 8, none⟩ = some (.int .i64 v.on1) := HB1.out.cell 8
   have d1_9 : w1.cell? ⟨w.heap.size, 9, none⟩ = some (.slice v.whr.A v.whr.n v.whr.c) := HB1.out.cell 9
   have d1_10 : w1.cell? ⟨w.heap.size, 10, none⟩ = some (.slice v.pick.A v.pick.n v.pick.c) := HB1.out.cell 10
   have d1_11 : w1.cell? ⟨w.heap.size, 11, none⟩ = some (.bool v.grp) := HB1.out.cell 11
   have d1_12 : w1.cell? ⟨w.heap.size, 12, none⟩ = some (.slice v.aggs.A v.aggs.n v.aggs.c) := HB1.out.cell 12
   clear h1 h2 h3 h4 hs d0 HB0 HW0 HE0 hw0
   by_cases hk : k = 0
   · subst hk
     rw [if_pos rfl] at he
     have HE1 := Lib.hid he
     clear he
     go_wp2_with fail
     refine (table_w B b l1 t w1 HW1.out HL1.out (HG.out.below HK1.out.below) (fun u hu => (HT.out u (HK1.out.below.trans hu)).t) HO.out.t).mono ?_
     rintro e w2 hs
     rcases WS.yes HK1.out hs with ⟨rfl, h1, h2⟩ | ⟨rfl, l2, h1, h2, h3, h4⟩
     · refine ⟨rfl, ?_⟩
       rw [← HE1.out, h1]
       exact ⟨rfl, h2⟩
     · have HX := Lib.hid (And.intro h1 (And.intro h2 (And.intro h3 h4)))
       clear h1 h2 h3 h4 hs d1_0 d1_1 d1_2 d1_3 d1_4 d1_5 d1_6 d1_7 d1_8 d1_9 d1_10 d1_11 d1_12
       go_wp2
       go_end0
       rw [← HE1.out, HX.out.1]
       exact ⟨rfl, HX.out.2⟩
   · rw [if_neg hk] at he
     have HE1 := Lib.hid he
     clear he
     go_wp2_with fail
     refine (view_w B b l1 v w1 HW1.out HL1.out (HG.out.below HK1.out.below) (fun u hu => (HT.out u (HK1.out.below.trans hu)).v) HO.out.v).mono ?_
     rintro e w2 hs
     rcases WS.yes HK1.out hs with ⟨rfl, h1, h2⟩ | ⟨rfl, l2, h1, h2, h3, h4⟩
     · refine ⟨rfl, ?_⟩
       rw [← HE1.out, h1]
       exact ⟨rfl, h2⟩
     · have HX := Lib.hid (And.intro h1 (And.intro h2 (And.intro h3 h4)))
       clear h1 h2 h3 h4 hs d1_0 d1_1 d1_2 d1_3 d1_4 d1_5 d1_6 d1_7 d1_8 d1_9 d1_10 d1_11 d1_12
       go_wp2
       go_end0
       rw [← HE1.out, HX.out.1]
       exact ⟨rfl, HX.out.2⟩
theorem byteC1 : Tryz.prog.cellsOf 5 = 1 := by kernel_rfl
set_option maxHeartbeats 4000000 in
theorem wtext_c (B b : Nat) (l : List UInt8) (w : World) (h : Wr w B b l) (h0 : l ≠ []) (hl : l.length ≤ 20000) :
 Calls Tryz.prog 55 #[.pointer (some ⟨b, 0, none⟩)] w fun e w' => e = .returned (.string (ba l)) ∧ Below B w w' := by
 obtain ⟨p, hB, v, hk, hv, hne⟩ : ∃ p, WrP p w B b l := h.elim (fun h => ⟨_, h⟩) (fun h => ⟨_, h⟩)
 have hl0 : l.length ≠ 0 := by simpa using h0
 obtain ⟨g, cap, cur, rfl, hBg, hg, hnc, hcm, hcs, htk⟩ : ∃ g cap cur, v = .slice (some ⟨g, 0, none⟩) l.length cap ∧ B ≤ g ∧ w.heap[g]? = some (.cells cur 5 (0, 0)) ∧ l.length ≤ cap ∧ cap ≤ maxLen ∧ cur.size = cap * 1 ∧ cur.toList.take (l.length * 1) = bcells l := by
  rcases hv.2 with ⟨_, hz⟩ | ⟨g, cap, cur, hv, r⟩
  · exact absurd hz hl0
  · exact ⟨g, cap, cur, hv, r⟩
 have c1 : w.drew.cell? ⟨b, 1, none⟩ = some (.slice (some ⟨g, 0, none⟩) l.length cap) := hk.cell 1
 have hSD : (Builtin.unsafeSliceData_ #[93] 144 #[.slice (some ⟨g, 0, none⟩) l.length cap]).run Tryz.prog w.drew = .ok (.pointer (some ⟨g, 0, none⟩)) w.drew :=
  Lib.run_unsafeSliceData_row _ _ _ _ _ _ (by omega)
 have hUS : (Builtin.unsafeString_ #[144, 3] 9 #[.pointer (some ⟨g, 0, none⟩), .int .i64 l.length]).run Tryz.prog w.drew = .ok (.string ⟨l.toArray⟩) (w.drew.freeze ⟨g, 0, none⟩ l.length) := by
  refine Lib.run_unsafeString_row w.drew 144 3 9 5 Tryz.underlying144 byteC1 g cur.size (by have hg' : w.drew.heap[g]? = some (.cells cur 5 (0, 0)) := hg; simp [World.shape?, hg']) l h0 (by omega) (by omega) ?_
  intro j x hx
  exact World.ownsRow.cells (g := g) hv rfl j _ (by simp [bcells, hx])
 obtain ⟨t, ht⟩ : ∃ t : ByteArray, (⟨l.toArray⟩ : ByteArray) = t := ⟨_, rfl⟩
 rw [ht] at hUS
 have Ht : Hid (ba l = t) := Lib.hid ht
 show Calls _ _ _ _ fun e w' => e = .returned (.string (ba l)) ∧ Below B w w'
 rw [Ht.out]
 clear ht hv hk htk hne h h0
 have hmx : Tryz.prog.follows .mixedOrders = true := by kernel_rfl
 go_enter Tryz.func55, Tryz.ntmps55
 go_wp2
 go_region_o
 all_goals (go_wp2; go_ret; exact ⟨rfl, Lib.below_freeze (Below.drew (Below.refl B w)) (p := ⟨g, 0, none⟩) hBg _⟩)
theorem txt_tW (l : List UInt8) : txtT (tW l) = l := rfl
theorem txt_tS (l : List UInt8) : txtT (tS l) = l := rfl
theorem txt_tN (b : ByteArray) : txtT (tN b) = b.data.toList := rfl
theorem txt_int (n : Int) : txtT (intT n) = Lib.itoa n := rfl
theorem txt_nl : textL nl = w_null := by decide
theorem txt_tt : textL tt = w_true := by decide
theorem txt_ff : textL ff = w_false := by decide
theorem step_words {x : Nd} (h : mayNd x = true) : stepW x = (ndT x).map txtT := by
 obtain ⟨op, n, v⟩ := x
 unfold mayNd at h
 simp only at h
 by_cases h0 : op = 0
 · subst h0
   simp only [if_true, Bool.and_eq_true] at h
   have hn := h.1
   unfold colB at hn
   simp only [Bool.and_eq_true, decide_eq_true_eq] at hn
   have e : stepW ⟨0, n, v⟩ = [99 :: Lib.itoa n] := rfl
   have e2 : (ndT ⟨0, n, v⟩).map txtT = [99 :: Lib.itoa (n.toNat : Int)] := rfl
   rw [e, e2, Int.toNat_of_nonneg hn.1]
 · rw [if_neg h0] at h
   by_cases h1 : op = 1
   · subst h1
     have e : stepW ⟨1, n, v⟩ = [textL v] := rfl
     rw [e]
     have e2 : ndT ⟨1, n, v⟩ = if v.eq nl then [tW w_null] else if v.eq tt then [tW w_true] else if v.eq ff then [tW w_false] else [⟨1, emp, v⟩] := rfl
     rw [e2]
     by_cases e1 : v.eq nl = true
     · rw [if_pos e1, Val.eq_iff.1 e1, txt_nl]; rfl
     · rw [if_neg e1]
       by_cases e2 : v.eq tt = true
       · rw [if_pos e2, Val.eq_iff.1 e2, txt_tt]; rfl
       · rw [if_neg e2]
         by_cases e3 : v.eq ff = true
         · rw [if_pos e3, Val.eq_iff.1 e3, txt_ff]; rfl
         · rw [if_neg e3]; rfl
   · rw [if_neg h1] at h
     simp only [Bool.and_eq_true, decide_eq_true_eq] at h
     obtain ⟨g1, g2, -⟩ := h
     have hc : op = 2 ∨ op = 3 ∨ op = 4 ∨ op = 5 ∨ op = 6 ∨ op = 7 ∨ op = 8 ∨ op = 9 ∨ op = 10 := by omega
     rcases hc with rfl | rfl | rfl | rfl | rfl | rfl | rfl | rfl | rfl <;> rfl
theorem steps_words : ∀ {e : List Nd}, (∀ x ∈ e, mayNd x = true) → e.flatMap stepW = (e.flatMap ndT).map txtT
 | [], _ => rfl
 | x :: e, h => by
   rw [List.flatMap_cons, List.flatMap_cons, List.map_append, step_words (h x (by simp)), steps_words fun y hy => h y (List.mem_cons_of_mem _ hy)]
theorem expr_words {e : List Nd} (h : mayE e = true) : exprW e = (exprT e).map txtT := by
 unfold mayE at h
 simp only [Bool.and_eq_true, List.all_eq_true] at h
 unfold exprW exprT
 rw [List.map_cons, List.map_append, steps_words h.2]
 rfl
theorem catW_some (a b : List (List UInt8)) : catW (some a) (some b) = some (a ++ b) := rfl
theorem tail_words {α : Type} (f : α → Option (List (List UInt8))) (g : α → List Tk) : ∀ xs : List α, (∀ a ∈ xs, f a = some ((g a).map txtT)) → xs ≠ [] → tailW f xs = some ((tS s_cm :: sepT g xs).map txtT)
 | [], _, h => absurd rfl h
 | [a], h, _ => by
   show catW (some [s_cm]) (catW (f a) (some [])) = _
   rw [h a (by simp)]
   simp [catW, sepT, txt_tS]
 | a :: b :: r, h, _ => by
   have ih := tail_words f g (b :: r) (fun x hx => h x (List.mem_cons_of_mem _ hx)) (by simp)
   show catW (some [s_cm]) (catW (f a) (tailW f (b :: r))) = _
   rw [ih, h a (by simp), catW_some, catW_some]
   congr 1
   rw [show sepT g (a :: b :: r) = g a ++ (tS s_cm :: sepT g (b :: r)) from rfl]
   simp [txt_tS]
theorem list_words {α : Type} (f : α → Option (List (List UInt8))) (g : α → List Tk) (xs : List α) (h : ∀ a ∈ xs, f a = some ((g a).map txtT)) : listW f xs = some ((sepT g xs).map txtT) := by
 cases xs with
 | nil => rfl
 | cons a r =>
   cases r with
   | nil =>
     show catW (f a) (some []) = _
     rw [h a (by simp), catW_some]
     simp [sepT]
   | cons b r =>
     have ih := tail_words f g (b :: r) (fun x hx => h x (List.mem_cons_of_mem _ hx)) (by simp)
     show catW (f a) (tailW f (b :: r)) = _
     rw [ih, h a (by simp), catW_some]
     congr 1
     rw [show sepT g (a :: b :: r) = g a ++ (tS s_cm :: sepT g (b :: r)) from rfl]
     simp
theorem size_if {α : Type} (b : ByteArray) (x y : α) : (if b.size = 0 then x else y) = (if b.toList.isEmpty then x else y) := by
 by_cases h : b.size = 0
 · rw [if_pos h, size_eq h, if_pos rfl]
 · rw [if_neg h, size_ne h, if_neg (by simp)]
theorem kind_words {k : Int} (h1 : 1 ≤ k) (h3 : k ≤ 3) : chW (IntKind.i64.wrap (k - 1)) kdWs = some [kindW k] := by
 have : k = 1 ∨ k = 2 ∨ k = 3 := by omega
 rcases this with rfl | rfl | rfl <;> rfl
theorem act_words {k : Int} (h1 : 0 ≤ k) (h3 : k ≤ 2) : chW k acWs = some [actW k] := by
 have : k = 0 ∨ k = 1 ∨ k = 2 := by omega
 rcases this with rfl | rfl | rfl <;> rfl
theorem fn_words {k : Int} (h1 : 0 ≤ k) (h3 : k ≤ 3) : chW k fnWs = some [fnW k] := by
 have : k = 0 ∨ k = 1 ∨ k = 2 ∨ k = 3 := by omega
 rcases this with rfl | rfl | rfl | rfl <;> rfl
theorem col_words {c : Cl} (h : mayCl c = true) : clW c = some ((clT c).map txtT) := by
 obtain ⟨nm, k, nu, un, rf, ac⟩ := c
 unfold mayCl at h
 simp only [Bool.and_eq_true, decide_eq_true_eq] at h
 obtain ⟨h1, h2, h3, h4⟩ := h
 unfold clW nulW uniW refW clT
 simp only
 rw [kind_words h2 h3, size_if]
 cases hr : rf.toList.isEmpty
 · rw [hr] at h4
   simp only [Bool.false_eq_true, if_false, Bool.and_eq_true, decide_eq_true_eq] at h4
   rw [act_words h4.2.1 h4.2.2]
   cases nu <;> cases un <;> simp [catW, txt_tW, txt_tN]
 · cases nu <;> cases un <;> simp [catW, txt_tW, txt_tN]
theorem checks_words : ∀ {es : List (List Nd)}, (∀ e ∈ es, mayE e = true) → chkW es = (es.flatMap fun e => tW w_check :: exprT e).map txtT
 | [], _ => rfl
 | e :: es, h => by
   have ih := checks_words (es := es) fun y hy => h y (List.mem_cons_of_mem _ hy)
   unfold chkW at *
   rw [List.flatMap_cons, List.flatMap_cons, List.map_append, ih, expr_words (h e (by simp))]
   rfl
theorem table_words {t : Tb} (h : mayTb t = true) : tbW t = some ((tbT t).map txtT) := by
 unfold mayTb at h
 simp only [Bool.and_eq_true, List.all_eq_true] at h
 obtain ⟨a1, a2, a3, a4, a5, a6⟩ := h
 unfold tbW tbT
 rw [list_words clW clT t.cols (fun c hc => col_words (a5 c hc)), checks_words a6, catW_some, catW_some]
 simp [txt_tN, txt_tS]
theorem agg_words {a : Ag} (h : mayAg a = true) : agW a = some ((agT a).map txtT) := by
 unfold mayAg at h
 unfold agW agT
 by_cases h0 : a.fn = 0
 · rw [if_pos h0, if_pos h0, h0, fn_words (by decide) (by decide)]; rfl
 · rw [if_neg h0] at h
   simp only [Bool.and_eq_true, decide_eq_true_eq] at h
   rw [if_neg h0, if_neg h0, fn_words h.1 h.2.1]; rfl
theorem view_words {v : Vw} (h : mayVw v = true) : vwW v = some ((vwT v).map txtT) := by
 unfold mayVw at h
 simp only [Bool.and_eq_true, List.all_eq_true] at h
 obtain ⟨a1, a2, a3, a4, a5, a6, a7, a8, a9⟩ := h
 have hp : listW numW v.pick = some ((sepT (fun n => [intT n]) v.pick).map txtT) := list_words numW _ v.pick (fun n _ => rfl)
 have hg : grpW v.grp v.aggs = some ((if v.grp then tW w_group :: sepT agT v.aggs else []).map txtT) := by
  unfold grpW
  cases v.grp
  · rfl
  · rw [if_pos rfl, if_pos rfl, list_words agW agT v.aggs (fun a ha => agg_words (a8 a ha)), catW_some]; rfl
 have hpic : picW v.pick v.grp v.aggs = some ((tW w_pick :: (sepT (fun n => [intT n]) v.pick ++ (if v.grp then tW w_group :: sepT agT v.aggs else []))).map txtT) := by
  unfold picW
  rw [hp, hg, catW_some, catW_some, List.map_cons, List.map_append]; rfl
 have hwh : whrW v.whr v.pick v.grp v.aggs = some (((if v.whr.isEmpty then [] else tW w_where :: exprT v.whr) ++ tW w_pick :: (sepT (fun n => [intT n]) v.pick ++ (if v.grp then tW w_group :: sepT agT v.aggs else []))).map txtT) := by
  unfold whrW
  rw [hpic, expr_words a4]
  cases hw : v.whr with
  | nil => rw [if_pos rfl, catW_some]; rfl
  | cons x r => rw [if_neg (by simp), catW_some, catW_some, List.map_append]; rfl
 obtain ⟨T, hT⟩ : ∃ T, ((if v.whr.isEmpty then [] else tW w_where :: exprT v.whr) ++ tW w_pick :: (sepT (fun n => [intT n]) v.pick ++ (if v.grp then tW w_group :: sepT agT v.aggs else []))) = T := ⟨_, rfl⟩
 have e : vwT v = tN v.name :: tW w_from :: tN v.frm :: ((if v.wth.toList.isEmpty then [] else [tW w_join, tN v.wth, tW w_on, intT v.on0, tS s_eq, intT v.on1]) ++ T) := by rw [← hT]; rfl
 rw [hT] at hwh
 rw [e]
 unfold vwW wthW
 rw [hwh, size_if]
 cases hj : v.wth.toList.isEmpty <;> simp [catW, txt_tW, txt_tN, txt_tS, txt_int]
theorem def_words {d : Df} (h : MayD d) : dfW d = some ((toksD d).map txtT) := by
 obtain ⟨k, t, v⟩ := d
 rcases h with ⟨rfl, h1, rfl⟩ | ⟨rfl, rfl, h1⟩
 · unfold dfW toksD
   simp only at h1
   simp only [if_true]
   rw [table_words h1]; rfl
 · unfold dfW toksD
   simp only at h1
   have n1 : ¬ (1 : Int) = 0 := by decide
   simp only [if_neg n1]
   rw [view_words h1]; rfl
theorem addW_tail : ∀ (ws : List (List UInt8)) (l : List UInt8), l ≠ [] → l.length ≤ 20000 → addW l ws = if (l ++ Lib.joinTail [32] ws).length ≤ 20000 then some (l ++ Lib.joinTail [32] ws) else none
 | [], l, _, hl => by
   have e : l ++ Lib.joinTail [32] [] = l := by simp [Lib.joinTail]
   rw [e, if_pos hl]; rfl
 | s :: ss, l, h, hl => by
   have hb : blankW l = l ++ [32] := by unfold blankW; rw [if_neg h]
   have e : l ++ Lib.joinTail [32] (s :: ss) = (l ++ [32] ++ s) ++ Lib.joinTail [32] ss := by simp [Lib.joinTail]
   rw [e]
   unfold addW
   rw [hb]
   by_cases hc : (l ++ [32]).length + s.length ≤ 20000
   · rw [if_pos hc, addW_tail ss (l ++ [32] ++ s) (by simp) (by rw [List.length_append]; exact hc)]
   · rw [if_neg hc, if_neg (by rw [List.length_append, List.length_append]; omega)]
theorem addW_join (s : List UInt8) (ss : List (List UInt8)) (h : s ≠ []) (hs : s.length ≤ 20000) : addW [] (s :: ss) = if (Lib.join (s :: ss) [32]).length ≤ 20000 then some (Lib.join (s :: ss) [32]) else none := by
 rw [Lib.join_cons]
 have e : addW [] (s :: ss) = addW s ss := by
  show (if (blankW []).length + s.length ≤ 20000 then addW (blankW [] ++ s) ss else none) = _
  rw [show blankW [] = [] from rfl, if_pos (by simpa using hs)]; rfl
 rw [e, addW_tail ss s h hs]
def wrO (d : Df) : Option (List UInt8) := (dfW d).bind (addW [])
theorem wr_may {d : Df} (h : MayD d) : wrO d = if (printL (toksD d)).length ≤ 20000 then some (printL (toksD d)) else none := by
 unfold wrO
 rw [def_words h]
 have hx : ∃ s ss, (toksD d).map txtT = s :: ss ∧ s ≠ [] ∧ s.length ≤ 20000 := by
  unfold toksD
  split
  · exact ⟨w_table, _, rfl, by decide, by decide⟩
  · exact ⟨w_view, _, rfl, by decide, by decide⟩
 obtain ⟨s, ss, h1, h2, h3⟩ := hx
 show addW [] ((toksD d).map txtT) = _
 unfold printL
 rw [h1, addW_join s ss h2 h3]
theorem addW_ge : ∀ (ws : List (List UInt8)) (l q : List UInt8), addW l ws = some q → l.length ≤ q.length
 | [], l, q, h => by
   have h : some l = some q := h
   rw [Option.some.inj h]; exact Nat.le_refl _
 | s :: ss, l, q, h => by
   have h : (if (blankW l).length + s.length ≤ 20000 then addW (blankW l ++ s) ss else none) = some q := h
   split at h
   · have := addW_ge ss _ q h
     have hb : l.length ≤ (blankW l).length := by
      unfold blankW
      split
      · rename_i h0; rw [h0]; exact Nat.le_refl _
      · simp
     rw [List.length_append] at this
     omega
   · cases h
theorem wr_ne {d : Df} {l : List UInt8} (h : wrO d = some l) : l ≠ [] := by
 unfold wrO dfW at h
 rw [catW_add] at h
 unfold chW at h
 split at h
 · rename_i hk
   have hx : ∃ x, dfWs.getD d.k.toNat [] = x ∧ 1 ≤ x.length ∧ x.length ≤ 20 := by
    have : d.k = 0 ∨ d.k = 1 := by have h2 : d.k < ((2 : Nat) : Int) := hk.2; have h1 := hk.1; omega
    rcases this with h | h <;> rw [h] <;> exact ⟨_, rfl, by decide, by decide⟩
   obtain ⟨x, e, h1, h2⟩ := hx
   rw [e, Option.bind_some] at h
   have e2 : addW [] [x] = some x := by
    show (if (blankW []).length + x.length ≤ 20000 then addW (blankW [] ++ x) [] else none) = _
    rw [show blankW [] = [] from rfl, if_pos (by simp; omega)]; rfl
   rw [e2, Option.bind_some] at h
   cases hp : (if d.k = 0 then tbW d.t else vwW d.v) with
   | none => rw [hp] at h; cases h
   | some ws =>
     rw [hp, Option.bind_some] at h
     have := addW_ge ws x l h
     intro e; rw [e, List.length_nil] at this; omega
 · cases h
theorem DfOk.d64 {d : Df} (h : DfOk d) : D64 d := ⟨fun e he x hx => (h.t.chks e he x hx).2.1, fun x hx => (h.v.whr x hx).2.1⟩
def readD (l : List UInt8) : Option Df := (lexL l).bind parseD
def PrT (d : Df) (t : List UInt8) : Prop := (MayD d ∧ (printL (toksD d)).length ≤ 20000 ∧ t = printL (toksD d)) ∨ (¬ (MayD d ∧ (printL (toksD d)).length ≤ 20000) ∧ t = [])
theorem PrT.uniq {d : Df} {t u : List UInt8} (h : PrT d t) (k : PrT d u) : t = u := by
 rcases h with ⟨h1, h2, rfl⟩ | ⟨h1, rfl⟩ <;> rcases k with ⟨k1, k2, rfl⟩ | ⟨k1, rfl⟩
 · rfl
 · exact absurd ⟨h1, h2⟩ k1
 · exact absurd ⟨k1, k2⟩ h1
 · rfl
theorem read_may {l : List UInt8} {d : Df} (h : readD l = some d) : MayD d ∧ D64 d ∧ (printL (toksD d)).length ≤ 2 * l.length := by
 unfold readD at h
 cases hs : lexL l with
 | none => rw [hs] at h; cases h
 | some a => rw [hs] at h; exact read_print hs h
theorem wr_yes {d : Df} {l : List UInt8} (h : wrO d = some l) (hr : readD l = some d) : PrT d l := by
 have hm := (read_may hr).1
 rw [wr_may hm] at h
 split at h
 · rename_i hl
   exact .inl ⟨hm, hl, (Option.some.inj h).symm⟩
 · cases h
theorem wr_no {d : Df} (h6 : D64 d) (h : ∀ l, wrO d = some l → readD l ≠ some d) : PrT d [] := by
 refine .inr ⟨fun hm => ?_, rfl⟩
 have := wr_may hm.1
 rw [if_pos hm.2] at this
 exact h _ this (print_read hm.1 h6)
theorem PrT.empty {d : Df} {t : List UInt8} (h : PrT d t) : t = [] ↔ ¬ (MayD d ∧ (printL (toksD d)).length ≤ 20000) := by
 rcases h with ⟨h1, h2, rfl⟩ | ⟨h1, rfl⟩
 · constructor
   · intro he
     exfalso
     have hx : printL (toksD d) ≠ [] := by
      unfold toksD printL
      split <;> (rw [List.map_cons, Lib.join_cons, txt_tW]; simp [w_table, w_view])
     exact hx he
   · intro hn; exact absurd ⟨h1, h2⟩ hn
 · exact ⟨fun _ => h1, fun _ => rfl⟩
set_option maxHeartbeats 1000000 in
theorem rletter_i (n : Int) (w : World) : Calls Tryz.prog 67 #[.int .u8 n] w fun e w' => e = .returned (.bool (decide (97 ≤ n) && decide (n ≤ 122))) ∧ w' = w := by
 cases h1 : decide (97 ≤ n)
 all_goals cases h2 : decide (n ≤ 122)
 all_goals
  go_enter Tryz.func67, Tryz.ntmps67
  go_wp2
  go_ret
  exact ⟨rfl, rfl⟩
theorem rletter_c (b : UInt8) (w : World) : Calls Tryz.prog 67 #[.int .u8 (b.toNat : Int)] w fun e w' => e = .returned (.bool (decide (cls b = 2))) ∧ w' = w := by
 have h := rletter_i (b.toNat : Int) w
 have e : (decide ((97 : Int) ≤ b.toNat) && decide ((b.toNat : Int) ≤ 122)) = decide (cls b = 2) := by
  rw [Bool.eq_iff_iff]
  simp only [Bool.and_eq_true, decide_eq_true_eq, cls_2]
  omega
 rw [e] at h
 exact h
set_option maxHeartbeats 1000000 in
theorem rdigit_i (n : Int) (w : World) : Calls Tryz.prog 89 #[.int .u8 n] w fun e w' => e = .returned (.bool (decide (48 ≤ n) && decide (n ≤ 57))) ∧ w' = w := by
 cases h1 : decide (48 ≤ n)
 all_goals cases h2 : decide (n ≤ 57)
 all_goals
  go_enter Tryz.func89, Tryz.ntmps89
  go_wp2
  go_ret
  exact ⟨rfl, rfl⟩
theorem rdigit_c (b : UInt8) (w : World) : Calls Tryz.prog 89 #[.int .u8 (b.toNat : Int)] w fun e w' => e = .returned (.bool (decide (cls b = 3))) ∧ w' = w := by
 have h := rdigit_i (b.toNat : Int) w
 have e : (decide ((48 : Int) ≤ b.toNat) && decide ((b.toNat : Int) ≤ 57)) = decide (cls b = 3) := by
  rw [Bool.eq_iff_iff]
  simp only [Bool.and_eq_true, decide_eq_true_eq, cls_3]
  omega
 rw [e] at h
 exact h
set_option maxHeartbeats 1000000 in
theorem rinner_c (b : UInt8) (w : World) : Calls Tryz.prog 66 #[.int .u8 (b.toNat : Int)] w fun e w' => e = .returned (.bool (inn b)) ∧ w' = w := by
 have H2 := Lib.hid (rletter_c b)
 have H3 := Lib.hid (rdigit_c b)
 obtain ⟨R, hR⟩ : ∃ R, inn b = R := ⟨_, rfl⟩
 rw [hR]
 have hR2 : R = (decide (cls b = 2) || (decide (cls b = 3) || ((b.toNat : Int) == 95))) := by
  rw [← hR, Bool.eq_iff_iff]
  simp only [inn_iff, Bool.or_eq_true, decide_eq_true_eq, beq_iff_eq, cls_4]
  omega
 clear hR
 have HR := Lib.hid hR2
 clear hR2
 generalize decide (cls b = 2) = p at H2 HR
 generalize decide (cls b = 3) = q at H3 HR
 go_enter Tryz.func66, Tryz.ntmps66
 go_wp2_with fail
 refine (H2.out _).mono ?_
 rintro e w1 ⟨rfl, rfl⟩
 cases p
 · go_wp2_with fail
   refine (H3.out _).mono ?_
   rintro e w2 ⟨rfl, rfl⟩
   cases q
   · go_wp2
     go_ret
     exact ⟨by rw [HR.out]; rfl, rfl⟩
   · go_wp2
     go_ret
     exact ⟨by rw [HR.out]; rfl, rfl⟩
 · go_wp2
   go_ret
   exact ⟨by rw [HR.out]; rfl, rfl⟩
theorem ba_get {l : List UInt8} {k : Nat} {x : UInt8} (hx : l[k]? = some x) (h : k < (ba l).size) : (ba l)[k]'h = x := by
 have e := (List.getElem?_eq_some_iff.1 hx).2
 show l.toArray[k]'h = x
 simpa using e
set_option maxHeartbeats 1000000 in
theorem rsign_c (b : UInt8) (w : World) : Calls Tryz.prog 88 #[.int .u8 (b.toNat : Int)] w fun e w' => e = .returned (.bool (decide (b ∈ sgns))) ∧ w' = w := by
 have e0 : (⟨#[40, 41, 91, 93, 44, 61, 60, 43, 45, 42, 63]⟩ : ByteArray) = ba sgns := rfl
 have hLn : sgns.length = 11 := rfl
 generalize sgns = L at hLn e0 ⊢
 obtain ⟨R, hR⟩ : ∃ R, decide (b ∈ L) = R := ⟨_, rfl⟩
 rw [hR]
 have HR := Lib.hid hR
 have HL := Lib.hid hLn
 have He0 := Lib.hid e0
 clear hR e0
 go_enter Tryz.func88, Tryz.ntmps88
 go_wp2_with fail
 rw [He0.out]
 go_loopw [4] (fun i wr => ∃ k : Nat, k ≤ 11 ∧ i = .int .i64 k ∧ w = wr ∧ Hid (b ∉ L.take k)) (fun i _ => 11 - (intOf i).toNat)
 case atStart => exact ⟨0, Nat.zero_le _, rfl, rfl, Lib.hid (by simp)⟩
 case round =>
  obtain ⟨k, hk, rfl, rfl, hA⟩ := hrel
  by_cases hlt2 : k < 11
  · obtain ⟨x, hx⟩ : ∃ x, L[k]? = some x := ⟨_, List.getElem?_eq_getElem (by omega)⟩
    have hkl : k < L.length := by omega
    have Hx := Lib.hid hx
    have Hg := Lib.hid (ba_get hx (by show k < L.toArray.size; simpa using hkl))
    clear hx
    by_cases hxb : x = b
    · have hR2 : R = true := by
       rw [← HR.out, decide_eq_true_eq, ← hxb]
       exact List.mem_of_getElem? Hx.out
      subst hR2
      subst hxb
      go_wp2_with (rw [Hg.out])
      go_ret
      exact ⟨rfl, rfl⟩
    · have hbb : ((x.toNat : Int) == b.toNat) = false := by
       simp only [beq_eq_false_iff_ne, ne_eq, Int.natCast_inj]
       intro e
       exact hxb (UInt8.toNat_inj.1 e)
      have hA2 : b ∉ L.take (k + 1) := by
       rw [List.take_add_one, Hx.out]
       intro h
       simp at h
       rcases h with h | h
       · exact hA.out h
       · exact hxb h.symm
      have HA2 := Lib.hid hA2
      clear hA2 hxb
      go_wp2_with (rw [Hg.out])
      go_roundw
      case rel => exact ⟨k + 1, by omega, by go_num, trivial, HA2⟩
      case measure => simp [intOf]; omega
  · have hR2 : R = false := by
     rw [← HR.out, decide_eq_false_iff_not]
     have := hA.out
     rwa [List.take_of_length_le (by omega)] at this
    subst hR2
    have hk2 : (k : Int) = 11 := by omega
    go_wp2
    go_ret
    exact ⟨rfl, rfl⟩
set_option maxHeartbeats 1000000 in
theorem rword_c (l : List UInt8) (w : World) (hl : l.length ≤ maxLen) : Calls Tryz.prog 40 #[.string (ba l)] w fun e w' => e = .returned (.bool (wordB l)) ∧ w' = w := by
 unfold maxLen at hl
 obtain ⟨R, hR⟩ : ∃ R, wordB l = R := ⟨_, rfl⟩
 rw [hR]
 have HR := Lib.hid hR
 clear hR
 go_enter Tryz.func40, Tryz.ntmps40
 go_wp2_with fail
 go_loopw [3] (fun i wr => ∃ k : Nat, k ≤ l.length ∧ i = .int .i64 k ∧ w = wr ∧ Hid (∀ c ∈ l.take k, inn c = true)) (fun i _ => l.length - (intOf i).toNat)
 case atStart => exact ⟨0, Nat.zero_le _, rfl, rfl, Lib.hid (by simp)⟩
 case round =>
  obtain ⟨k, hk, rfl, rfl, hA⟩ := hrel
  by_cases hlt2 : k < l.length
  · obtain ⟨x, hx⟩ : ∃ x, l[k]? = some x := ⟨_, List.getElem?_eq_getElem hlt2⟩
    have Hx := Lib.hid hx
    have Hg := Lib.hid (ba_get hx (by show k < l.toArray.size; simpa using hlt2))
    clear hx
    go_wp2_with fail
    rw [Hg.out]
    refine (rinner_c x w).mono ?_
    rintro e w1 ⟨rfl, rfl⟩
    cases hi : inn x
    · have hR2 : R = false := by
       rw [← HR.out]
       have hm := List.mem_of_getElem? Hx.out
       unfold wordB
       cases l with
       | nil => rfl
       | cons c r =>
         have : (c :: r).all inn = false := by
          rw [← Bool.not_eq_true, List.all_eq_true]
          intro h
          have := h x hm
          rw [hi] at this; cases this
         simp only [this, Bool.and_false]
      subst hR2
      clear HR hi
      go_wp2
      go_ret
      exact ⟨rfl, rfl⟩
    · have hA2 : ∀ c ∈ l.take (k + 1), inn c = true := by
       rw [List.take_add_one, Hx.out]
       intro c h
       simp at h
       rcases h with h | rfl
       · exact hA.out c h
       · exact hi
      have HA2 := Lib.hid hA2
      clear hA2 hi
      go_wp2
      go_roundw
      case rel => exact ⟨k + 1, by omega, by go_num, trivial, HA2⟩
      case measure => simp [intOf]; omega
  · have hke : k = l.length := by omega
    have hA2 := hA.out
    rw [List.take_of_length_le (by omega)] at hA2
    subst hke
    cases l with
    | nil =>
      have hR2 : R = false := by rw [← HR.out]; rfl
      subst hR2
      clear HR hA hA2 hk hlt2
      go_wp2
      go_ret
      exact ⟨rfl, rfl⟩
    | cons c r =>
      have hR2 : R = (decide ((c :: r).length ≤ 30) && decide (cls c = 2)) := by
       rw [← HR.out]
       unfold wordB
       simp only [List.all_eq_true.2 hA2, Bool.and_true]
      have HR2 := Lib.hid hR2
      have Hg : Hid ((ba (c :: r))[0]'(by show 0 < (c :: r).toArray.size; simp) = c) := rfl
      have hlt0 : 1 ≤ (((c :: r).length : Nat) : Int) := by rw [List.length_cons]; omega
      simp only [List.length_cons] at *
      clear HR hA hA2 hk hlt2 hR2
      by_cases h30 : ((r.length : Int) + 1) ≤ 30
      · have hd := decide_eq_true h30
        have hR3 : R = decide (cls c = 2) := by
         rw [HR2.out, decide_eq_true (show r.length + 1 ≤ 30 by omega)]; rfl
        have HR3 := Lib.hid hR3
        clear HR2 hR3
        go_wp2_with fail
        rw [Hg.out]
        refine (rletter_c c w).mono ?_
        rintro e w1 ⟨rfl, rfl⟩
        rw [← HR3.out]
        go_wp2
        go_ret
        exact ⟨rfl, rfl⟩
      · have hR3 : R = false := by
         rw [HR2.out, decide_eq_false (show ¬ r.length + 1 ≤ 30 by omega)]; rfl
        subst hR3
        clear HR2
        go_wp2
        go_ret
        exact ⟨rfl, rfl⟩
theorem run_eqInT (w : World) (k vk vn k' vk' vn' : Int) (s vs s' vs' : ByteArray) : (Op.equalIn 10000 129 (.agg #[.int .i64 k, .string s, .int .i64 vk, .int .i64 vn, .string vs]) (.agg #[.int .i64 k', .string s', .int .i64 vk', .int .i64 vn', .string vs'])).run Tryz.prog w = .ok (Tk.eq ⟨k, s, vk, vn, vs⟩ ⟨k', s', vk', vn', vs'⟩) w := by
 simp [go_sem, Tryz.underlying129, Tryz.underlying59, Tryz.underlying3, Tryz.underlying9]
 by_cases h1 : k = k' <;> by_cases h2 : s.toList = s'.toList <;> by_cases h3 : vk = vk' <;> by_cases h4 : vn = vn' <;> by_cases h5 : vs.toList = vs'.toList <;> simp [Tk.eq, Val.eq, h1, h2, h3, h4, h5]
theorem run_neT (w : World) (k vk vn k' vk' vn' : Int) (s vs s' vs' : ByteArray) : (binOp .neq 129 (.agg #[.int .i64 k, .string s, .int .i64 vk, .int .i64 vn, .string vs]) (.agg #[.int .i64 k', .string s', .int .i64 vk', .int .i64 vn', .string vs'])).run Tryz.prog w = .ok (.bool !(Tk.eq ⟨k, s, vk, vn, vs⟩ ⟨k', s', vk', vn', vs'⟩)) w := by
 rw [run_neq_struct, run_eqInT]; rfl
instance : DecidableEq Tk := fun _ _ => decidable_of_iff _ Tk.eq_iff
theorem drop_at {α : Type} {l : List α} {k : Nat} {x : α} (hx : l[k]? = some x) : l.drop k = x :: l.drop (k + 1) := by
 have h1 := List.drop_eq_getElem_cons (List.getElem?_eq_some_iff.1 hx).1
 rw [(List.getElem?_eq_some_iff.1 hx).2] at h1
 exact h1
section
attribute [local go_sem ↓] run_neT run_eqV run_neV
end
end Go.Proofs.YtjgpmnffagdhlaaGreatDoor
namespace Go.Proofs.YtjgpmnffagdhlaaGreatDoor
open Go Go.RowKit
set_option maxRecDepth 100000
section
attribute [local go_sem ↓] run_neN run_neC run_neA
set_option maxHeartbeats 1000000 in
theorem eqI_c (A B : Option Addr) (n m c d : Nat) (xs ys : List Int) (w : World) (hn : xs.length = n) (hm : ys.length = m) (hn1 : n ≤ maxLen) (hm1 : m ≤ maxLen) (hs : SlG w A 1 rdI xs) (ks : SlG w B 1 rdI ys) :
 Calls Tryz.prog 130 #[.slice A n c, .slice B m d] w fun e w' => e = .returned (.bool (decide (xs = ys))) ∧ Below w.heap.size w w' := by
 unfold maxLen at hn1 hm1
 obtain ⟨R, hR⟩ : ∃ R, decide (xs = ys) = R := ⟨_, rfl⟩
 rw [hR]
 have HR := Lib.hid hR
 have Hn := Lib.hid hn
 have Hm := Lib.hid hm
 have Hs := Lib.hid hs
 have Ks := Lib.hid ks
 clear hn hm hs ks hR
 by_cases hnm : n = m
 case neg =>
  have hRf : false = R := by
   rw [← HR.out]
   exact (decide_eq_false (fun e => hnm (by rw [← Hn.out, ← Hm.out, e]))).symm
  subst hRf
  clear HR
  have hne : ((n : Int) != (m : Int)) = true := by simpa using (by omega : ¬ (n : Int) = m)
  go_enter Tryz.func130, Tryz.ntmps130
  go_wp2
  go_ret
  exact ⟨rfl, Below.refl _ _⟩
 subst hnm
 go_enter Tryz.func130, Tryz.ntmps130
 go_wp2_with fail
 go_loopw [13] (fun i wr => ∃ k : Nat, k ≤ n ∧ i = .int .i64 k ∧ Hid (Below w.heap.size w wr) ∧ Hid (decide (xs.drop k = ys.drop k) = R)) (fun i _ => n - (intOf i).toNat)
 case atStart => exact ⟨0, Nat.zero_le _, rfl, Below.refl _ _, HR⟩
 case round =>
  obtain ⟨k, hk, rfl, hb, hinv⟩ := hrel
  clear HR
  by_cases hlt : k < n
  · obtain ⟨b, off, x, rfl, hblt, hx, hc⟩ := Hs.out.atS (by rw [Hn.out]; exact hlt)
    obtain ⟨b', off', y, rfl, hblt', hy, hc'⟩ := Ks.out.atS (by rw [Hm.out]; exact hlt)
    have d0 := (hb.out.cell (p := ⟨b, off + k, none⟩) hblt).trans (by have := hc 0 _ rfl; simpa using this)
    have e0 := (hb.out.cell (p := ⟨b', off' + k, none⟩) hblt').trans (by have := hc' 0 _ rfl; simpa using this)
    have l1 : b < wr.heap.size := Nat.lt_of_lt_of_le hblt hb.out.size
    have l2 : b' < wr.heap.size := Nat.lt_of_lt_of_le hblt' hb.out.size
    have hst : (decide (x = y) && decide (xs.drop (k + 1) = ys.drop (k + 1))) = R := by
     rw [← hinv.out, drop_at hx, drop_at hy, Bool.eq_iff_iff]
     simp
    have Hst := Lib.hid hst
    clear hinv hx hy hc hc' hblt hblt' hst
    go_wp2_with fail
    go_region
    have hE : (x != y) = !decide (x = y) := by rw [Bool.eq_iff_iff]; simp
    rw [hE]
    have Hb2 := Lib.hid hb.out.drew
    clear hE
    cases hxy : decide (x = y)
    · have hRf : false = R := by have := Hst.out; rw [hxy, Bool.false_and] at this; exact this
      subst hRf
      clear Hst hxy
      go_wp2
      go_ret
      exact ⟨rfl, Hb2.out⟩
    · have hst : decide (xs.drop (k + 1) = ys.drop (k + 1)) = R := by have := Hst.out; rw [hxy, Bool.true_and] at this; exact this
      have Hst2 := Lib.hid hst
      clear Hst hxy hst
      go_wp2
      go_roundw
      case rel => exact ⟨k + 1, by omega, by go_num, Hb2, Hst2⟩
      case measure => simp [intOf]; omega
  · obtain rfl : k = n := by omega
    have hRt : true = R := by
     have := hinv.out
     rw [show xs.drop k = [] from List.drop_eq_nil_of_le (by rw [Hn.out]; omega), show ys.drop k = [] from List.drop_eq_nil_of_le (by rw [Hm.out]; omega)] at this
     exact this
    subst hRt
    clear hinv
    go_wp2
    go_ret
    exact ⟨rfl, hb.out⟩
set_option maxHeartbeats 1000000 in
theorem eqN_c (A B : Option Addr) (n m c d : Nat) (xs ys : List Nd) (w : World) (hn : xs.length = n) (hm : ys.length = m) (hn1 : n ≤ maxLen) (hm1 : m ≤ maxLen) (hs : SlG w A 5 rdN xs) (ks : SlG w B 5 rdN ys) :
 Calls Tryz.prog 169 #[.slice A n c, .slice B m d] w fun e w' => e = .returned (.bool (decide (xs = ys))) ∧ Below w.heap.size w w' := by
 unfold maxLen at hn1 hm1
 obtain ⟨R, hR⟩ : ∃ R, decide (xs = ys) = R := ⟨_, rfl⟩
 rw [hR]
 have HR := Lib.hid hR
 have Hn := Lib.hid hn
 have Hm := Lib.hid hm
 have Hs := Lib.hid hs
 have Ks := Lib.hid ks
 clear hn hm hs ks hR
 by_cases hnm : n = m
 case neg =>
  have hRf : false = R := by
   rw [← HR.out]
   exact (decide_eq_false (fun e => hnm (by rw [← Hn.out, ← Hm.out, e]))).symm
  subst hRf
  clear HR
  have hne : ((n : Int) != (m : Int)) = true := by simpa using (by omega : ¬ (n : Int) = m)
  go_enter Tryz.func169, Tryz.ntmps169
  go_wp2
  go_ret
  exact ⟨rfl, Below.refl _ _⟩
 subst hnm
 go_enter Tryz.func169, Tryz.ntmps169
 go_wp2_with fail
 go_loopw [13] (fun i wr => ∃ k : Nat, k ≤ n ∧ i = .int .i64 k ∧ Hid (Below w.heap.size w wr) ∧ Hid (decide (xs.drop k = ys.drop k) = R)) (fun i _ => n - (intOf i).toNat)
 case atStart => exact ⟨0, Nat.zero_le _, rfl, Below.refl _ _, HR⟩
 case round =>
  obtain ⟨k, hk, rfl, hb, hinv⟩ := hrel
  clear HR
  by_cases hlt : k < n
  · obtain ⟨b, off, x, rfl, hblt, hx, hc⟩ := Hs.out.atS (by rw [Hn.out]; exact hlt)
    obtain ⟨b', off', y, rfl, hblt', hy, hc'⟩ := Ks.out.atS (by rw [Hm.out]; exact hlt)
    have d0 := (hb.out.cell (p := ⟨b, off + k * 5, none⟩) hblt).trans (by have := hc 0 _ rfl; simpa using this)
    have d1 := (hb.out.cell (p := ⟨b, off + k * 5 + 1, none⟩) hblt).trans (by have := hc 1 _ rfl; simpa using this)
    have d2 := (hb.out.cell (p := ⟨b, off + k * 5 + 2, none⟩) hblt).trans (by have := hc 2 _ rfl; simpa using this)
    have d3 := (hb.out.cell (p := ⟨b, off + k * 5 + 3, none⟩) hblt).trans (by have := hc 3 _ rfl; simpa using this)
    have d4 := (hb.out.cell (p := ⟨b, off + k * 5 + 4, none⟩) hblt).trans (by have := hc 4 _ rfl; simpa using this)
    have e0 := (hb.out.cell (p := ⟨b', off' + k * 5, none⟩) hblt').trans (by have := hc' 0 _ rfl; simpa using this)
    have e1 := (hb.out.cell (p := ⟨b', off' + k * 5 + 1, none⟩) hblt').trans (by have := hc' 1 _ rfl; simpa using this)
    have e2 := (hb.out.cell (p := ⟨b', off' + k * 5 + 2, none⟩) hblt').trans (by have := hc' 2 _ rfl; simpa using this)
    have e3 := (hb.out.cell (p := ⟨b', off' + k * 5 + 3, none⟩) hblt').trans (by have := hc' 3 _ rfl; simpa using this)
    have e4 := (hb.out.cell (p := ⟨b', off' + k * 5 + 4, none⟩) hblt').trans (by have := hc' 4 _ rfl; simpa using this)
    have l1 : b < wr.heap.size := Nat.lt_of_lt_of_le hblt hb.out.size
    have l2 : b' < wr.heap.size := Nat.lt_of_lt_of_le hblt' hb.out.size
    have hst : (decide (x = y) && decide (xs.drop (k + 1) = ys.drop (k + 1))) = R := by
     rw [← hinv.out, drop_at hx, drop_at hy, Bool.eq_iff_iff]
     simp
    have Hst := Lib.hid hst
    clear hinv hx hy hc hc' hblt hblt' hst
    go_wp2_with fail
    go_region
    have hE : Nd.eqB ⟨x.op, x.n, ⟨x.v.k, x.v.n, x.v.s⟩⟩ ⟨y.op, y.n, ⟨y.v.k, y.v.n, y.v.s⟩⟩ = decide (x = y) := rfl
    rw [hE]
    have Hb2 := Lib.hid hb.out.drew
    clear hE
    cases hxy : decide (x = y)
    · have hRf : false = R := by have := Hst.out; rw [hxy, Bool.false_and] at this; exact this
      subst hRf
      clear Hst hxy
      go_wp2
      go_ret
      exact ⟨rfl, Hb2.out⟩
    · have hst : decide (xs.drop (k + 1) = ys.drop (k + 1)) = R := by have := Hst.out; rw [hxy, Bool.true_and] at this; exact this
      have Hst2 := Lib.hid hst
      clear Hst hxy hst
      go_wp2
      go_roundw
      case rel => exact ⟨k + 1, by omega, by go_num, Hb2, Hst2⟩
      case measure => simp [intOf]; omega
  · obtain rfl : k = n := by omega
    have hRt : true = R := by
     have := hinv.out
     rw [show xs.drop k = [] from List.drop_eq_nil_of_le (by rw [Hn.out]; omega), show ys.drop k = [] from List.drop_eq_nil_of_le (by rw [Hm.out]; omega)] at this
     exact this
    subst hRt
    clear hinv
    go_wp2
    go_ret
    exact ⟨rfl, hb.out⟩
set_option maxHeartbeats 1000000 in
theorem eqC_c (A B : Option Addr) (n m c d : Nat) (xs ys : List Cl) (w : World) (hn : xs.length = n) (hm : ys.length = m) (hn1 : n ≤ maxLen) (hm1 : m ≤ maxLen) (hs : SlG w A 6 rdCl xs) (ks : SlG w B 6 rdCl ys) :
 Calls Tryz.prog 127 #[.slice A n c, .slice B m d] w fun e w' => e = .returned (.bool (decide (xs = ys))) ∧ Below w.heap.size w w' := by
 unfold maxLen at hn1 hm1
 obtain ⟨R, hR⟩ : ∃ R, decide (xs = ys) = R := ⟨_, rfl⟩
 rw [hR]
 have HR := Lib.hid hR
 have Hn := Lib.hid hn
 have Hm := Lib.hid hm
 have Hs := Lib.hid hs
 have Ks := Lib.hid ks
 clear hn hm hs ks hR
 by_cases hnm : n = m
 case neg =>
  have hRf : false = R := by
   rw [← HR.out]
   exact (decide_eq_false (fun e => hnm (by rw [← Hn.out, ← Hm.out, e]))).symm
  subst hRf
  clear HR
  have hne : ((n : Int) != (m : Int)) = true := by simpa using (by omega : ¬ (n : Int) = m)
  go_enter Tryz.func127, Tryz.ntmps127
  go_wp2
  go_ret
  exact ⟨rfl, Below.refl _ _⟩
 subst hnm
 go_enter Tryz.func127, Tryz.ntmps127
 go_wp2_with fail
 go_loopw [13] (fun i wr => ∃ k : Nat, k ≤ n ∧ i = .int .i64 k ∧ Hid (Below w.heap.size w wr) ∧ Hid (decide (xs.drop k = ys.drop k) = R)) (fun i _ => n - (intOf i).toNat)
 case atStart => exact ⟨0, Nat.zero_le _, rfl, Below.refl _ _, HR⟩
 case round =>
  obtain ⟨k, hk, rfl, hb, hinv⟩ := hrel
  clear HR
  by_cases hlt : k < n
  · obtain ⟨b, off, x, rfl, hblt, hx, hc⟩ := Hs.out.atS (by rw [Hn.out]; exact hlt)
    obtain ⟨b', off', y, rfl, hblt', hy, hc'⟩ := Ks.out.atS (by rw [Hm.out]; exact hlt)
    have d0 := (hb.out.cell (p := ⟨b, off + k * 6, none⟩) hblt).trans (by have := hc 0 _ rfl; simpa using this)
    have d1 := (hb.out.cell (p := ⟨b, off + k * 6 + 1, none⟩) hblt).trans (by have := hc 1 _ rfl; simpa using this)
    have d2 := (hb.out.cell (p := ⟨b, off + k * 6 + 2, none⟩) hblt).trans (by have := hc 2 _ rfl; simpa using this)
    have d3 := (hb.out.cell (p := ⟨b, off + k * 6 + 3, none⟩) hblt).trans (by have := hc 3 _ rfl; simpa using this)
    have d4 := (hb.out.cell (p := ⟨b, off + k * 6 + 4, none⟩) hblt).trans (by have := hc 4 _ rfl; simpa using this)
    have d5 := (hb.out.cell (p := ⟨b, off + k * 6 + 5, none⟩) hblt).trans (by have := hc 5 _ rfl; simpa using this)
    have e0 := (hb.out.cell (p := ⟨b', off' + k * 6, none⟩) hblt').trans (by have := hc' 0 _ rfl; simpa using this)
    have e1 := (hb.out.cell (p := ⟨b', off' + k * 6 + 1, none⟩) hblt').trans (by have := hc' 1 _ rfl; simpa using this)
    have e2 := (hb.out.cell (p := ⟨b', off' + k * 6 + 2, none⟩) hblt').trans (by have := hc' 2 _ rfl; simpa using this)
    have e3 := (hb.out.cell (p := ⟨b', off' + k * 6 + 3, none⟩) hblt').trans (by have := hc' 3 _ rfl; simpa using this)
    have e4 := (hb.out.cell (p := ⟨b', off' + k * 6 + 4, none⟩) hblt').trans (by have := hc' 4 _ rfl; simpa using this)
    have e5 := (hb.out.cell (p := ⟨b', off' + k * 6 + 5, none⟩) hblt').trans (by have := hc' 5 _ rfl; simpa using this)
    have l1 : b < wr.heap.size := Nat.lt_of_lt_of_le hblt hb.out.size
    have l2 : b' < wr.heap.size := Nat.lt_of_lt_of_le hblt' hb.out.size
    have hst : (decide (x = y) && decide (xs.drop (k + 1) = ys.drop (k + 1))) = R := by
     rw [← hinv.out, drop_at hx, drop_at hy, Bool.eq_iff_iff]
     simp
    have Hst := Lib.hid hst
    clear hinv hx hy hc hc' hblt hblt' hst
    go_wp2_with fail
    go_region
    have hE : Cl.eqB ⟨x.name, x.kind, x.nul, x.uni, x.ref, x.act⟩ ⟨y.name, y.kind, y.nul, y.uni, y.ref, y.act⟩ = decide (x = y) := rfl
    rw [hE]
    have Hb2 := Lib.hid hb.out.drew
    clear hE
    cases hxy : decide (x = y)
    · have hRf : false = R := by have := Hst.out; rw [hxy, Bool.false_and] at this; exact this
      subst hRf
      clear Hst hxy
      go_wp2
      go_ret
      exact ⟨rfl, Hb2.out⟩
    · have hst : decide (xs.drop (k + 1) = ys.drop (k + 1)) = R := by have := Hst.out; rw [hxy, Bool.true_and] at this; exact this
      have Hst2 := Lib.hid hst
      clear Hst hxy hst
      go_wp2
      go_roundw
      case rel => exact ⟨k + 1, by omega, by go_num, Hb2, Hst2⟩
      case measure => simp [intOf]; omega
  · obtain rfl : k = n := by omega
    have hRt : true = R := by
     have := hinv.out
     rw [show xs.drop k = [] from List.drop_eq_nil_of_le (by rw [Hn.out]; omega), show ys.drop k = [] from List.drop_eq_nil_of_le (by rw [Hm.out]; omega)] at this
     exact this
    subst hRt
    clear hinv
    go_wp2
    go_ret
    exact ⟨rfl, hb.out⟩
set_option maxHeartbeats 1000000 in
theorem eqA_c (A B : Option Addr) (n m c d : Nat) (xs ys : List Ag) (w : World) (hn : xs.length = n) (hm : ys.length = m) (hn1 : n ≤ maxLen) (hm1 : m ≤ maxLen) (hs : SlG w A 2 rdAg xs) (ks : SlG w B 2 rdAg ys) :
 Calls Tryz.prog 131 #[.slice A n c, .slice B m d] w fun e w' => e = .returned (.bool (decide (xs = ys))) ∧ Below w.heap.size w w' := by
 unfold maxLen at hn1 hm1
 obtain ⟨R, hR⟩ : ∃ R, decide (xs = ys) = R := ⟨_, rfl⟩
 rw [hR]
 have HR := Lib.hid hR
 have Hn := Lib.hid hn
 have Hm := Lib.hid hm
 have Hs := Lib.hid hs
 have Ks := Lib.hid ks
 clear hn hm hs ks hR
 by_cases hnm : n = m
 case neg =>
  have hRf : false = R := by
   rw [← HR.out]
   exact (decide_eq_false (fun e => hnm (by rw [← Hn.out, ← Hm.out, e]))).symm
  subst hRf
  clear HR
  have hne : ((n : Int) != (m : Int)) = true := by simpa using (by omega : ¬ (n : Int) = m)
  go_enter Tryz.func131, Tryz.ntmps131
  go_wp2
  go_ret
  exact ⟨rfl, Below.refl _ _⟩
 subst hnm
 go_enter Tryz.func131, Tryz.ntmps131
 go_wp2_with fail
 go_loopw [13] (fun i wr => ∃ k : Nat, k ≤ n ∧ i = .int .i64 k ∧ Hid (Below w.heap.size w wr) ∧ Hid (decide (xs.drop k = ys.drop k) = R)) (fun i _ => n - (intOf i).toNat)
 case atStart => exact ⟨0, Nat.zero_le _, rfl, Below.refl _ _, HR⟩
 case round =>
  obtain ⟨k, hk, rfl, hb, hinv⟩ := hrel
  clear HR
  by_cases hlt : k < n
  · obtain ⟨b, off, x, rfl, hblt, hx, hc⟩ := Hs.out.atS (by rw [Hn.out]; exact hlt)
    obtain ⟨b', off', y, rfl, hblt', hy, hc'⟩ := Ks.out.atS (by rw [Hm.out]; exact hlt)
    have d0 := (hb.out.cell (p := ⟨b, off + k * 2, none⟩) hblt).trans (by have := hc 0 _ rfl; simpa using this)
    have d1 := (hb.out.cell (p := ⟨b, off + k * 2 + 1, none⟩) hblt).trans (by have := hc 1 _ rfl; simpa using this)
    have e0 := (hb.out.cell (p := ⟨b', off' + k * 2, none⟩) hblt').trans (by have := hc' 0 _ rfl; simpa using this)
    have e1 := (hb.out.cell (p := ⟨b', off' + k * 2 + 1, none⟩) hblt').trans (by have := hc' 1 _ rfl; simpa using this)
    have l1 : b < wr.heap.size := Nat.lt_of_lt_of_le hblt hb.out.size
    have l2 : b' < wr.heap.size := Nat.lt_of_lt_of_le hblt' hb.out.size
    have hst : (decide (x = y) && decide (xs.drop (k + 1) = ys.drop (k + 1))) = R := by
     rw [← hinv.out, drop_at hx, drop_at hy, Bool.eq_iff_iff]
     simp
    have Hst := Lib.hid hst
    clear hinv hx hy hc hc' hblt hblt' hst
    go_wp2_with fail
    go_region
    have hE : Ag.eqB ⟨x.fn, x.col⟩ ⟨y.fn, y.col⟩ = decide (x = y) := rfl
    rw [hE]
    have Hb2 := Lib.hid hb.out.drew
    clear hE
    cases hxy : decide (x = y)
    · have hRf : false = R := by have := Hst.out; rw [hxy, Bool.false_and] at this; exact this
      subst hRf
      clear Hst hxy
      go_wp2
      go_ret
      exact ⟨rfl, Hb2.out⟩
    · have hst : decide (xs.drop (k + 1) = ys.drop (k + 1)) = R := by have := Hst.out; rw [hxy, Bool.true_and] at this; exact this
      have Hst2 := Lib.hid hst
      clear Hst hxy hst
      go_wp2
      go_roundw
      case rel => exact ⟨k + 1, by omega, by go_num, Hb2, Hst2⟩
      case measure => simp [intOf]; omega
  · obtain rfl : k = n := by omega
    have hRt : true = R := by
     have := hinv.out
     rw [show xs.drop k = [] from List.drop_eq_nil_of_le (by rw [Hn.out]; omega), show ys.drop k = [] from List.drop_eq_nil_of_le (by rw [Hm.out]; omega)] at this
     exact this
    subst hRt
    clear hinv
    go_wp2
    go_ret
    exact ⟨rfl, hb.out⟩
end
end Go.Proofs.YtjgpmnffagdhlaaGreatDoor
namespace Go.Proofs.YtjgpmnffagdhlaaGreatDoor
open Go Go.RowKit
set_option maxRecDepth 100000
set_option maxHeartbeats 1000000 in
theorem smE_c (A B : Option Addr) (n m c d : Nat) (xs ys : List Nd) (w : World) (hn : xs.length = n) (hm : ys.length = m) (hn1 : n ≤ maxLen) (hm1 : m ≤ maxLen) (hs : SlG w A 5 rdN xs) (ks : SlG w B 5 rdN ys) :
 Calls Tryz.prog 129 #[.slice A n c, .slice B m d] w fun e w' => e = .returned (.bool (decide (xs = ys))) ∧ Below w.heap.size w w' := by
 have H := Lib.hid (eqN_c A B n m c d xs ys w hn hm hn1 hm1 hs ks)
 obtain ⟨R, hR⟩ : ∃ R, decide (xs = ys) = R := ⟨_, rfl⟩
 rw [hR] at H ⊢
 clear hn hm hn1 hm1 hs ks hR
 go_enter Tryz.func129, Tryz.ntmps129
 go_wp2_with fail
 refine H.out.mono ?_
 rintro e w1 ⟨rfl, hb⟩
 have Hb := Lib.hid hb
 clear hb H
 go_wp2
 go_ret
 exact ⟨rfl, Hb.out⟩
set_option maxHeartbeats 2000000 in
theorem eqF_c (A B : Option Addr) (n m c d : Nat) (xs ys : List (Sx Nd)) (w : World) (hn : xs.length = n) (hm : ys.length = m) (hn1 : n ≤ maxLen) (hm1 : m ≤ maxLen) (hs : SlG w A 1 rdX xs) (ks : SlG w B 1 rdX ys) (hx : ∀ e ∈ xs, e.In w 5 rdN) (hy : ∀ e ∈ ys, e.In w 5 rdN) :
 Calls Tryz.prog 128 #[.slice A n c, .slice B m d, .func (.func 129) #[] #[]] w fun e w' => e = .returned (.bool (decide (xs.map (·.xs) = ys.map (·.xs)))) ∧ Below w.heap.size w w' := by
 unfold maxLen at hn1 hm1
 obtain ⟨R, hR⟩ : ∃ R, decide (xs.map (·.xs) = ys.map (·.xs)) = R := ⟨_, rfl⟩
 rw [hR]
 have HR := Lib.hid hR
 have Hn := Lib.hid hn
 have Hm := Lib.hid hm
 have Hs := Lib.hid hs
 have Ks := Lib.hid ks
 have Hx := Lib.hid hx
 have Hy := Lib.hid hy
 clear hn hm hs ks hR hx hy
 by_cases hnm : n = m
 case neg =>
  have hRf : false = R := by
   rw [← HR.out]
   exact (decide_eq_false (fun e => hnm (by have := congrArg List.length e; rw [List.length_map, List.length_map, Hn.out, Hm.out] at this; exact this))).symm
  subst hRf
  clear HR
  have hne : ((n : Int) != (m : Int)) = true := by simpa using (by omega : ¬ (n : Int) = m)
  go_enter Tryz.func128, Tryz.ntmps128
  go_wp2
  go_ret
  exact ⟨rfl, Below.refl _ _⟩
 subst hnm
 go_enter Tryz.func128, Tryz.ntmps128
 go_wp2_with fail
 go_loopw [17] (fun i wr => ∃ k : Nat, k ≤ n ∧ i = .int .i64 k ∧ Hid (Below w.heap.size w wr) ∧ Hid (decide ((xs.map (·.xs)).drop k = (ys.map (·.xs)).drop k) = R)) (fun i _ => n - (intOf i).toNat)
 case atStart => exact ⟨0, Nat.zero_le _, rfl, Below.refl _ _, HR⟩
 case round =>
  obtain ⟨q, hq, rfl, hb, hinv⟩ := hrel
  clear HR
  by_cases hlt2 : q < n
  · obtain ⟨b, off, x, rfl, hblt, hx, hc⟩ := Hs.out.atS (by rw [Hn.out]; exact hlt2)
    obtain ⟨b', off', y, rfl, hblt', hy, hc'⟩ := Ks.out.atS (by rw [Hm.out]; exact hlt2)
    have d0 : wr.cell? ⟨b, off + q, none⟩ = some (.slice x.A x.n x.c) := (hb.out.cell (p := ⟨b, off + q, none⟩) hblt).trans (by have := hc 0 _ rfl; simpa using this)
    have e0 : wr.cell? ⟨b', off' + q, none⟩ = some (.slice y.A y.n y.c) := (hb.out.cell (p := ⟨b', off' + q, none⟩) hblt').trans (by have := hc' 0 _ rfl; simpa using this)
    have HX := Lib.hid (((Hx.out x (List.mem_of_getElem? hx)).after hb.out))
    have HY := Lib.hid (((Hy.out y (List.mem_of_getElem? hy)).after hb.out))
    have l1 : b < wr.heap.size := Nat.lt_of_lt_of_le hblt hb.out.size
    have l2 : b' < wr.heap.size := Nat.lt_of_lt_of_le hblt' hb.out.size
    have hst : (decide (x.xs = y.xs) && decide ((xs.map (·.xs)).drop (q + 1) = (ys.map (·.xs)).drop (q + 1))) = R := by
     have ex : (xs.map (·.xs))[q]? = some x.xs := by rw [List.getElem?_map, hx]; rfl
     have ey : (ys.map (·.xs))[q]? = some y.xs := by rw [List.getElem?_map, hy]; rfl
     rw [← hinv.out, drop_at ex, drop_at ey, Bool.eq_iff_iff]
     simp
    have Hst := Lib.hid hst
    clear hinv hx hy hc hc' hblt hblt' hst
    obtain ⟨gA, gn, gc, gs⟩ := x
    obtain ⟨kA, kn, kc, ks⟩ := y
    simp only at *
    have HE := Lib.hid (smE_c gA kA gn kn gc kc gs ks wr HX.out.len HY.out.len HX.out.max HY.out.max HX.out.sl HY.out.sl)
    go_wp2_with fail
    refine HE.out.mono ?_
    rintro e w9 ⟨rfl, hb9⟩
    have Hb2 := Lib.hid (below_via hb.out hb9)
    clear d0 e0 HX HY HE hb9
    obtain ⟨Z, hZ⟩ : ∃ Z, decide (gs = ks) = Z := ⟨_, rfl⟩
    rw [hZ] at Hst ⊢
    clear hZ
    cases Z
    · have hRf : false = R := by have := Hst.out; rw [Bool.false_and] at this; exact this
      subst hRf
      clear Hst
      go_wp2
      go_ret
      exact ⟨rfl, Hb2.out⟩
    · have hst : decide ((xs.map (·.xs)).drop (q + 1) = (ys.map (·.xs)).drop (q + 1)) = R := by have := Hst.out; rw [Bool.true_and] at this; exact this
      have Hst2 := Lib.hid hst
      clear Hst hst
      go_wp2
      go_roundw
      case rel => exact ⟨q + 1, by omega, by go_num, Hb2, Hst2⟩
      case measure => simp [intOf]; omega
  · obtain rfl : q = n := by omega
    have hRt : true = R := by
     have := hinv.out
     rw [show (xs.map (·.xs)).drop q = [] from List.drop_eq_nil_of_le (by rw [List.length_map, Hn.out]; omega), show (ys.map (·.xs)).drop q = [] from List.drop_eq_nil_of_le (by rw [List.length_map, Hm.out]; omega)] at this
     exact this
    subst hRt
    clear hinv
    go_wp2
    go_ret
    exact ⟨rfl, hb.out⟩
section
attribute [local go_sem ↓] run_neN run_neC run_neA
set_option maxHeartbeats 1000000 in
theorem sameInts_c (A B : Option Addr) (n m c d : Nat) (xs ys : List Int) (w : World) (hn : xs.length = n) (hm : ys.length = m) (hn1 : n ≤ maxLen) (hm1 : m ≤ maxLen) (hs : SlG w A 1 rdI xs) (ks : SlG w B 1 rdI ys) :
 Calls Tryz.prog 39 #[.slice A n c, .slice B m d] w fun e w' => e = .returned (.bool (decide (xs = ys))) ∧ Below w.heap.size w w' := by
 unfold maxLen at hn1 hm1
 obtain ⟨R, hR⟩ : ∃ R, decide (xs = ys) = R := ⟨_, rfl⟩
 rw [hR]
 have HR := Lib.hid hR
 have Hn := Lib.hid hn
 have Hm := Lib.hid hm
 have Hs := Lib.hid hs
 have Ks := Lib.hid ks
 clear hn hm hs ks hR
 by_cases hnm : n = m
 case neg =>
  have hRf : false = R := by
   rw [← HR.out]
   exact (decide_eq_false (fun e => hnm (by rw [← Hn.out, ← Hm.out, e]))).symm
  subst hRf
  clear HR
  have hne : ((n : Int) != (m : Int)) = true := by simpa using (by omega : ¬ (n : Int) = m)
  go_enter Tryz.func39, Tryz.ntmps39
  go_wp2
  go_ret
  exact ⟨rfl, Below.refl _ _⟩
 subst hnm
 go_enter Tryz.func39, Tryz.ntmps39
 go_wp2_with fail
 go_loopw [5] (fun i wr => ∃ k : Nat, k ≤ n ∧ i = .int .i64 k ∧ Hid (Below w.heap.size w wr) ∧ Hid (decide (xs.drop k = ys.drop k) = R)) (fun i _ => n - (intOf i).toNat)
 case atStart => exact ⟨0, Nat.zero_le _, rfl, Below.refl _ _, HR⟩
 case round =>
  obtain ⟨k, hk, rfl, hb, hinv⟩ := hrel
  clear HR
  by_cases hlt : k < n
  · obtain ⟨b, off, x, rfl, hblt, hx, hc⟩ := Hs.out.atS (by rw [Hn.out]; exact hlt)
    obtain ⟨b', off', y, rfl, hblt', hy, hc'⟩ := Ks.out.atS (by rw [Hm.out]; exact hlt)
    have d0 := (hb.out.cell (p := ⟨b, off + k, none⟩) hblt).trans (by have := hc 0 _ rfl; simpa using this)
    have e0 := (hb.out.cell (p := ⟨b', off' + k, none⟩) hblt').trans (by have := hc' 0 _ rfl; simpa using this)
    have l1 : b < wr.heap.size := Nat.lt_of_lt_of_le hblt hb.out.size
    have l2 : b' < wr.heap.size := Nat.lt_of_lt_of_le hblt' hb.out.size
    have hst : (decide (x = y) && decide (xs.drop (k + 1) = ys.drop (k + 1))) = R := by
     rw [← hinv.out, drop_at hx, drop_at hy, Bool.eq_iff_iff]
     simp
    have Hst := Lib.hid hst
    clear hinv hx hy hc hc' hblt hblt' hst
    go_wp2_with fail
    go_region
    have hE : (x != y) = !decide (x = y) := by rw [Bool.eq_iff_iff]; simp
    rw [hE]
    have Hb2 := Lib.hid hb.out.drew
    clear hE
    cases hxy : decide (x = y)
    · have hRf : false = R := by have := Hst.out; rw [hxy, Bool.false_and] at this; exact this
      subst hRf
      clear Hst hxy
      go_wp2
      go_ret
      exact ⟨rfl, Hb2.out⟩
    · have hst : decide (xs.drop (k + 1) = ys.drop (k + 1)) = R := by have := Hst.out; rw [hxy, Bool.true_and] at this; exact this
      have Hst2 := Lib.hid hst
      clear Hst hxy hst
      go_wp2
      go_roundw
      case rel => exact ⟨k + 1, by omega, by go_num, Hb2, Hst2⟩
      case measure => simp [intOf]; omega
  · obtain rfl : k = n := by omega
    have hRt : true = R := by
     have := hinv.out
     rw [show xs.drop k = [] from List.drop_eq_nil_of_le (by rw [Hn.out]; omega), show ys.drop k = [] from List.drop_eq_nil_of_le (by rw [Hm.out]; omega)] at this
     exact this
    subst hRt
    clear hinv
    go_wp2
    go_ret
    exact ⟨rfl, hb.out⟩
set_option maxHeartbeats 1000000 in
theorem sameE_c (A B : Option Addr) (n m c d : Nat) (xs ys : List Nd) (w : World) (hn : xs.length = n) (hm : ys.length = m) (hn1 : n ≤ maxLen) (hm1 : m ≤ maxLen) (hs : SlG w A 5 rdN xs) (ks : SlG w B 5 rdN ys) :
 Calls Tryz.prog 38 #[.slice A n c, .slice B m d] w fun e w' => e = .returned (.bool (decide (xs = ys))) ∧ Below w.heap.size w w' := by
 unfold maxLen at hn1 hm1
 obtain ⟨R, hR⟩ : ∃ R, decide (xs = ys) = R := ⟨_, rfl⟩
 rw [hR]
 have HR := Lib.hid hR
 have Hn := Lib.hid hn
 have Hm := Lib.hid hm
 have Hs := Lib.hid hs
 have Ks := Lib.hid ks
 clear hn hm hs ks hR
 by_cases hnm : n = m
 case neg =>
  have hRf : false = R := by
   rw [← HR.out]
   exact (decide_eq_false (fun e => hnm (by rw [← Hn.out, ← Hm.out, e]))).symm
  subst hRf
  clear HR
  have hne : ((n : Int) != (m : Int)) = true := by simpa using (by omega : ¬ (n : Int) = m)
  go_enter Tryz.func38, Tryz.ntmps38
  go_wp2
  go_ret
  exact ⟨rfl, Below.refl _ _⟩
 subst hnm
 go_enter Tryz.func38, Tryz.ntmps38
 go_wp2_with fail
 go_loopw [5] (fun i wr => ∃ k : Nat, k ≤ n ∧ i = .int .i64 k ∧ Hid (Below w.heap.size w wr) ∧ Hid (decide (xs.drop k = ys.drop k) = R)) (fun i _ => n - (intOf i).toNat)
 case atStart => exact ⟨0, Nat.zero_le _, rfl, Below.refl _ _, HR⟩
 case round =>
  obtain ⟨k, hk, rfl, hb, hinv⟩ := hrel
  clear HR
  by_cases hlt : k < n
  · obtain ⟨b, off, x, rfl, hblt, hx, hc⟩ := Hs.out.atS (by rw [Hn.out]; exact hlt)
    obtain ⟨b', off', y, rfl, hblt', hy, hc'⟩ := Ks.out.atS (by rw [Hm.out]; exact hlt)
    have d0 := (hb.out.cell (p := ⟨b, off + k * 5, none⟩) hblt).trans (by have := hc 0 _ rfl; simpa using this)
    have d1 := (hb.out.cell (p := ⟨b, off + k * 5 + 1, none⟩) hblt).trans (by have := hc 1 _ rfl; simpa using this)
    have d2 := (hb.out.cell (p := ⟨b, off + k * 5 + 2, none⟩) hblt).trans (by have := hc 2 _ rfl; simpa using this)
    have d3 := (hb.out.cell (p := ⟨b, off + k * 5 + 3, none⟩) hblt).trans (by have := hc 3 _ rfl; simpa using this)
    have d4 := (hb.out.cell (p := ⟨b, off + k * 5 + 4, none⟩) hblt).trans (by have := hc 4 _ rfl; simpa using this)
    have e0 := (hb.out.cell (p := ⟨b', off' + k * 5, none⟩) hblt').trans (by have := hc' 0 _ rfl; simpa using this)
    have e1 := (hb.out.cell (p := ⟨b', off' + k * 5 + 1, none⟩) hblt').trans (by have := hc' 1 _ rfl; simpa using this)
    have e2 := (hb.out.cell (p := ⟨b', off' + k * 5 + 2, none⟩) hblt').trans (by have := hc' 2 _ rfl; simpa using this)
    have e3 := (hb.out.cell (p := ⟨b', off' + k * 5 + 3, none⟩) hblt').trans (by have := hc' 3 _ rfl; simpa using this)
    have e4 := (hb.out.cell (p := ⟨b', off' + k * 5 + 4, none⟩) hblt').trans (by have := hc' 4 _ rfl; simpa using this)
    have l1 : b < wr.heap.size := Nat.lt_of_lt_of_le hblt hb.out.size
    have l2 : b' < wr.heap.size := Nat.lt_of_lt_of_le hblt' hb.out.size
    have hst : (decide (x = y) && decide (xs.drop (k + 1) = ys.drop (k + 1))) = R := by
     rw [← hinv.out, drop_at hx, drop_at hy, Bool.eq_iff_iff]
     simp
    have Hst := Lib.hid hst
    clear hinv hx hy hc hc' hblt hblt' hst
    go_wp2_with fail
    go_region
    have hE : Nd.eqB ⟨x.op, x.n, ⟨x.v.k, x.v.n, x.v.s⟩⟩ ⟨y.op, y.n, ⟨y.v.k, y.v.n, y.v.s⟩⟩ = decide (x = y) := rfl
    rw [hE]
    have Hb2 := Lib.hid hb.out.drew
    clear hE
    cases hxy : decide (x = y)
    · have hRf : false = R := by have := Hst.out; rw [hxy, Bool.false_and] at this; exact this
      subst hRf
      clear Hst hxy
      go_wp2
      go_ret
      exact ⟨rfl, Hb2.out⟩
    · have hst : decide (xs.drop (k + 1) = ys.drop (k + 1)) = R := by have := Hst.out; rw [hxy, Bool.true_and] at this; exact this
      have Hst2 := Lib.hid hst
      clear Hst hxy hst
      go_wp2
      go_roundw
      case rel => exact ⟨k + 1, by omega, by go_num, Hb2, Hst2⟩
      case measure => simp [intOf]; omega
  · obtain rfl : k = n := by omega
    have hRt : true = R := by
     have := hinv.out
     rw [show xs.drop k = [] from List.drop_eq_nil_of_le (by rw [Hn.out]; omega), show ys.drop k = [] from List.drop_eq_nil_of_le (by rw [Hm.out]; omega)] at this
     exact this
    subst hRt
    clear hinv
    go_wp2
    go_ret
    exact ⟨rfl, hb.out⟩
end
end Go.Proofs.YtjgpmnffagdhlaaGreatDoor
namespace Go.Proofs.YtjgpmnffagdhlaaGreatDoor
open Go Go.RowKit
set_option maxRecDepth 100000
attribute [local go_sem ↓] Go.wp_at_zero Go.wp_at_succ
theorem box3 {w0 w : World} {b : Nat} {u v z : Value} {E : TypeId} (h : w0.heap[b]? = some (.cells #[u, v, z] E (0, 0))) (hlt : b < w0.heap.size) (hb : Below w0.heap.size w0 w) : w.cell? ⟨b, 0, none⟩ = some u ∧ w.cell? ⟨b, 1, none⟩ = some v ∧ w.cell? ⟨b, 2, none⟩ = some z ∧ b < w.heap.size := by
 have h2 := (hb.block b hlt).trans h
 refine ⟨?_, ?_, ?_, Nat.lt_of_lt_of_le hlt hb.size⟩ <;> simp [World.cell?, h2]
theorem alloc_at (w : World) (cs : Array Value) (E : TypeId) : (w.alloc (.cells cs E)).heap[w.heap.size]? = some (.cells cs E (0, 0)) := by
 show (w.heap.push _)[w.heap.size]? = _
 simp
section
attribute [local go_sem ↓] run_neN run_neC run_neA
set_option maxHeartbeats 2000000 in
theorem sameTb_c (x y : Tm) (w : World) (hx : x.In w) (hy : y.In w) :
 Calls Tryz.prog 21 #[x.w, y.w] w fun e w' => e = .returned (.bool (decide (x.tb = y.tb))) ∧ Below w.heap.size w w' := by
 obtain ⟨xn, ⟨xA, xm, xc, xs⟩, ⟨xB, xq, xd, xe⟩⟩ := x
 obtain ⟨yn, ⟨yA, ym, yc, ys⟩, ⟨yB, yq, yd, ye⟩⟩ := y
 obtain ⟨R, hR⟩ : ∃ R, decide ((⟨xn, ⟨xA, xm, xc, xs⟩, ⟨xB, xq, xd, xe⟩⟩ : Tm).tb = (⟨yn, ⟨yA, ym, yc, ys⟩, ⟨yB, yq, yd, ye⟩⟩ : Tm).tb) = R := ⟨_, rfl⟩
 rw [hR]
 have hR2 : R = (decide (xn = yn) && (decide (xs = ys) && decide (xe.map (·.xs) = ye.map (·.xs)))) := by
  rw [← hR, Bool.eq_iff_iff]
  simp [Tm.tb]
 have HR := Lib.hid hR2
 obtain ⟨⟨xl, xmm, xsl⟩, ⟨el, emm, esl⟩, xea⟩ := hx
 obtain ⟨⟨yl, ymm, ysl⟩, ⟨fl, fmm, fsl⟩, yea⟩ := hy
 simp only at xl xmm xsl el emm esl xea yl ymm ysl fl fmm fsl yea
 have Hb0 : Hid (Below w.heap.size w ((w.alloc (.cells #[.string xn, .slice xA xm xc, .slice xB xq xd] 25)).alloc (.cells #[.string yn, .slice yA ym yc, .slice yB yq yd] 25))) := Lib.hid ((below_one w _).alloc (by simp) _)
 unfold maxLen at xmm ymm emm fmm
 clear hR hR2
 by_cases h1 : xn = yn
 case neg =>
  have n1 : ¬ xn.toList = yn.toList := fun h => h1 (toList_inj h)
  have hRf : R = false := by rw [HR.out, decide_eq_false h1]; rfl
  subst hRf
  clear HR xl xsl el esl xea yl ysl fl fsl yea h1
  go_enter Tryz.func21, Tryz.ntmps21
  go_wp2
  go_ret
  exact ⟨rfl, Hb0.out⟩
 subst h1
 by_cases h2 : xm = ym
 case neg =>
  have n2 : ¬ (xm : Int) = ym := by omega
  have hne : ((xm : Int) != (ym : Int)) = true := by simpa using n2
  have hRf : R = false := by
   have h3 : ¬ xs = ys := fun h => h2 (by rw [← xl, ← yl, h])
   rw [HR.out, decide_eq_false h3, Bool.false_and, Bool.and_false]
  subst hRf
  clear HR xl xsl el esl xea yl ysl fl fsl yea h2 n2
  go_enter Tryz.func21, Tryz.ntmps21
  go_wp2
  go_ret
  exact ⟨rfl, Hb0.out⟩
 subst h2
 by_cases h3 : xq = yq
 case neg =>
  have n2 : ¬ (xq : Int) = yq := by omega
  have hne : ((xq : Int) != (yq : Int)) = true := by simpa using n2
  have hRf : R = false := by
   have h4 : ¬ xe.map (·.xs) = ye.map (·.xs) := fun h => h3 (by have := congrArg List.length h; rw [List.length_map, List.length_map, el, fl] at this; exact this)
   rw [HR.out, decide_eq_false h4, Bool.and_false, Bool.and_false]
  subst hRf
  clear HR xl xsl el esl xea yl ysl fl fsl yea h3 n2
  go_enter Tryz.func21, Tryz.ntmps21
  go_wp2
  go_ret
  exact ⟨rfl, Hb0.out⟩
 subst h3
 have HR3 : Hid ((decide (xs = ys) && decide (xe.map (·.xs) = ye.map (·.xs))) = R) := Lib.hid (by rw [HR.out, decide_eq_true (rfl : xn = xn), Bool.true_and])
 have Hxl := Lib.hid xl
 have Hyl := Lib.hid yl
 have Hel := Lib.hid el
 have Hfl := Lib.hid fl
 have Hxs := Lib.hid xsl
 have Hys := Lib.hid ysl
 have Hxe := Lib.hid esl
 have Hye := Lib.hid fsl
 have Hxa := Lib.hid xea
 have Hya := Lib.hid yea
 clear HR xl xsl el esl xea yl ysl fl fsl yea
 go_enter Tryz.func21, Tryz.ntmps21
 go_wp2_with fail
 have hw1 : (w.alloc (.cells #[.string xn, .slice xA xm xc, .slice xB xq xd] 25)).heap.size = w.heap.size + 1 := by simp
 have e0 : ((w.alloc (.cells #[.string xn, .slice xA xm xc, .slice xB xq xd] 25)).alloc (.cells #[.string xn, .slice yA xm yc, .slice yB xq yd] 25)).heap[w.heap.size]? = some (.cells #[.string xn, .slice xA xm xc, .slice xB xq xd] 25 (0, 0)) := by
  rw [Below.heap_alloc _ _ _ (by simp)]
  show (w.heap.push _)[w.heap.size]? = _
  simp
 have e1 : ((w.alloc (.cells #[.string xn, .slice xA xm xc, .slice xB xq xd] 25)).alloc (.cells #[.string xn, .slice yA xm yc, .slice yB xq yd] 25)).heap[w.heap.size + 1]? = some (.cells #[.string xn, .slice yA xm yc, .slice yB xq yd] 25 (0, 0)) := by
  have h := alloc_at (w.alloc (.cells #[.string xn, .slice xA xm xc, .slice xB xq xd] 25)) #[.string xn, .slice yA xm yc, .slice yB xq yd] 25
  rw [hw1] at h
  exact h
 have hW2 : w.heap.size + 1 < ((w.alloc (.cells #[.string xn, .slice xA xm xc, .slice xB xq xd] 25)).alloc (.cells #[.string xn, .slice yA xm yc, .slice yB xq yd] 25)).heap.size := by simp
 obtain ⟨W, hW⟩ : ∃ W, ((w.alloc (.cells #[.string xn, .slice xA xm xc, .slice xB xq xd] 25)).alloc (.cells #[.string xn, .slice yA xm yc, .slice yB xq yd] 25)) = W := ⟨_, rfl⟩
 rw [hW] at Hb0 e0 e1 hW2 ⊢
 have HA0 := Lib.hid (fun w' (hb : Below W.heap.size W w') => box3 e0 (by omega) hb)
 have HA1 := Lib.hid (fun w' (hb : Below W.heap.size W w') => box3 e1 (by omega) hb)
 clear hW hw1 e0 e1 hW2
 go_loopw [5] (fun i wr => ∃ k : Nat, k ≤ xm ∧ i = .int .i64 k ∧ Hid (Below W.heap.size W wr) ∧ Hid ((decide (xs.drop k = ys.drop k) && decide (xe.map (·.xs) = ye.map (·.xs))) = R)) (fun i _ => xm - (intOf i).toNat)
 case atStart => exact ⟨0, Nat.zero_le _, rfl, Below.refl _ _, HR3⟩
 case round =>
  obtain ⟨k, hk, rfl, hb, hinv⟩ := hrel
  clear HR3
  obtain ⟨a0, a1, a2, al⟩ := HA0.out _ hb.out
  obtain ⟨b0, b1, b2, bl⟩ := HA1.out _ hb.out
  have Hbw := Lib.hid (below_via Hb0.out hb.out)
  by_cases hlt : k < xm
  · obtain ⟨b, off, x, rfl, hblt, hx, hc⟩ := Hxs.out.atS (by rw [Hxl.out]; exact hlt)
    obtain ⟨b', off', y, rfl, hblt', hy, hc'⟩ := Hys.out.atS (by rw [Hyl.out]; exact hlt)
    have d0 := (Hbw.out.cell (p := ⟨b, off + k * 6, none⟩) hblt).trans (by have := hc 0 _ rfl; simpa using this)
    have d1 := (Hbw.out.cell (p := ⟨b, off + k * 6 + 1, none⟩) hblt).trans (hc 1 _ rfl)
    have d2 := (Hbw.out.cell (p := ⟨b, off + k * 6 + 2, none⟩) hblt).trans (hc 2 _ rfl)
    have d3 := (Hbw.out.cell (p := ⟨b, off + k * 6 + 3, none⟩) hblt).trans (hc 3 _ rfl)
    have d4 := (Hbw.out.cell (p := ⟨b, off + k * 6 + 4, none⟩) hblt).trans (hc 4 _ rfl)
    have d5 := (Hbw.out.cell (p := ⟨b, off + k * 6 + 5, none⟩) hblt).trans (hc 5 _ rfl)
    have f0 := (Hbw.out.cell (p := ⟨b', off' + k * 6, none⟩) hblt').trans (by have := hc' 0 _ rfl; simpa using this)
    have f1 := (Hbw.out.cell (p := ⟨b', off' + k * 6 + 1, none⟩) hblt').trans (hc' 1 _ rfl)
    have f2 := (Hbw.out.cell (p := ⟨b', off' + k * 6 + 2, none⟩) hblt').trans (hc' 2 _ rfl)
    have f3 := (Hbw.out.cell (p := ⟨b', off' + k * 6 + 3, none⟩) hblt').trans (hc' 3 _ rfl)
    have f4 := (Hbw.out.cell (p := ⟨b', off' + k * 6 + 4, none⟩) hblt').trans (hc' 4 _ rfl)
    have f5 := (Hbw.out.cell (p := ⟨b', off' + k * 6 + 5, none⟩) hblt').trans (hc' 5 _ rfl)
    have l1 : b < wr.heap.size := Nat.lt_of_lt_of_le hblt Hbw.out.size
    have l2 : b' < wr.heap.size := Nat.lt_of_lt_of_le hblt' Hbw.out.size
    have hst : (decide (x = y) && (decide (xs.drop (k + 1) = ys.drop (k + 1)) && decide (xe.map (·.xs) = ye.map (·.xs)))) = R := by
     rw [← hinv.out, drop_at hx, drop_at hy, Bool.eq_iff_iff]
     simp [and_assoc]
    have Hst := Lib.hid hst
    clear hinv hx hy hc hc' hblt hblt' hst
    obtain ⟨xn1, xk1, xu1, xv1, xr1, xa1⟩ := x
    obtain ⟨yn1, yk1, yu1, yv1, yr1, ya1⟩ := y
    simp only at *
    go_wp2_with fail
    go_region
    have hE : Cl.eqB ⟨xn1, xk1, xu1, xv1, xr1, xa1⟩ ⟨yn1, yk1, yu1, yv1, yr1, ya1⟩ = decide ((⟨xn1, xk1, xu1, xv1, xr1, xa1⟩ : Cl) = ⟨yn1, yk1, yu1, yv1, yr1, ya1⟩) := rfl
    rw [hE]
    obtain ⟨Z, hZ⟩ : ∃ Z, decide ((⟨xn1, xk1, xu1, xv1, xr1, xa1⟩ : Cl) = ⟨yn1, yk1, yu1, yv1, yr1, ya1⟩) = Z := ⟨_, rfl⟩
    rw [hZ] at Hst ⊢
    have Hb2 := Lib.hid hb.out.drew
    clear hE hZ d0 d1 d2 d3 d4 d5 f0 f1 f2 f3 f4 f5 a0 a1 a2 b0 b1 b2
    cases Z
    · have hRf : false = R := by have := Hst.out; rw [Bool.false_and] at this; exact this
      subst hRf
      clear Hst
      go_wp2
      go_ret
      exact ⟨rfl, below_via Hb0.out Hb2.out⟩
    · have hst : (decide (xs.drop (k + 1) = ys.drop (k + 1)) && decide (xe.map (·.xs) = ye.map (·.xs))) = R := by have := Hst.out; rw [Bool.true_and] at this; exact this
      have Hst2 := Lib.hid hst
      clear Hst hst
      go_wp2
      go_roundw
      case rel => exact ⟨k + 1, by omega, by go_num, Hb2, Hst2⟩
      case measure => simp [intOf]; omega
  · obtain rfl : k = xm := by omega
    have HR4 : Hid (decide ((xe.map (·.xs)).drop 0 = (ye.map (·.xs)).drop 0) = R) := by
     have := hinv.out
     rw [show xs.drop k = [] from List.drop_eq_nil_of_le (by rw [Hxl.out]; omega), show ys.drop k = [] from List.drop_eq_nil_of_le (by rw [Hyl.out]; omega), decide_eq_true (rfl : ([] : List Cl) = []), Bool.true_and] at this
     exact this
    have HbW := hb
    obtain ⟨W1, hW1⟩ : ∃ W1, W1 = wr := ⟨_, rfl⟩
    clear hinv
    go_wp2_with fail
    go_loopw [6] (fun i wr => ∃ k : Nat, k ≤ xq ∧ i = .int .i64 k ∧ Hid (Below W.heap.size W wr) ∧ Hid (decide ((xe.map (·.xs)).drop k = (ye.map (·.xs)).drop k) = R)) (fun i _ => xq - (intOf i).toNat)
    case atStart => exact ⟨0, Nat.zero_le _, rfl, HbW, HR4⟩
    case round =>
     clear hW1 Hbw HbW HR4 hb a0 a1 a2 b0 b1 b2 al bl
     obtain ⟨q, hq, rfl, hb, hinv⟩ := hrel
     obtain ⟨a0, a1, a2, al⟩ := HA0.out _ hb.out
     obtain ⟨b0, b1, b2, bl⟩ := HA1.out _ hb.out
     have Hbw := Lib.hid (below_via Hb0.out hb.out)
     by_cases hlt2 : q < xq
     · obtain ⟨b, off, x, rfl, hblt, hx, hc⟩ := Hxe.out.atS (by rw [Hel.out]; exact hlt2)
       obtain ⟨b', off', y, rfl, hblt', hy, hc'⟩ := Hye.out.atS (by rw [Hfl.out]; exact hlt2)
       have HS : Hid (∀ w' : World, Below wr.heap.size wr w' → w'.cell? ⟨w.heap.size, 2, none⟩ = some (.slice (some ⟨b, off, none⟩) xq xd) ∧ w'.cell? ⟨w.heap.size + 1, 2, none⟩ = some (.slice (some ⟨b', off', none⟩) xq yd) ∧ w'.cell? ⟨b, off + q, none⟩ = some (.slice x.A x.n x.c) ∧ w'.cell? ⟨b', off' + q, none⟩ = some (.slice y.A y.n y.c)) := Lib.hid fun w' hb' => by
        have hb2 := below_via Hbw.out hb'
        refine ⟨(HA0.out _ (below_via hb.out hb')).2.2.1, (HA1.out _ (below_via hb.out hb')).2.2.1, (hb2.cell (p := ⟨b, off + q, none⟩) hblt).trans ?_, (hb2.cell (p := ⟨b', off' + q, none⟩) hblt').trans ?_⟩
        · have := hc 0 _ rfl; simpa using this
        · have := hc' 0 _ rfl; simpa using this
       have HX := Lib.hid (((Hxa.out x (List.mem_of_getElem? hx)).after Hbw.out))
       have HY := Lib.hid (((Hya.out y (List.mem_of_getElem? hy)).after Hbw.out))
       obtain ⟨d0, d1, d2, d3⟩ := HS.out wr (Below.refl _ _)
       have l1 : b < wr.heap.size := Nat.lt_of_lt_of_le hblt Hbw.out.size
       have l2 : b' < wr.heap.size := Nat.lt_of_lt_of_le hblt' Hbw.out.size
       have hst : (decide (x.xs = y.xs) && decide ((xe.map (·.xs)).drop (q + 1) = (ye.map (·.xs)).drop (q + 1))) = R := by
        have ex : (xe.map (·.xs))[q]? = some x.xs := by rw [List.getElem?_map, hx]; rfl
        have ey : (ye.map (·.xs))[q]? = some y.xs := by rw [List.getElem?_map, hy]; rfl
        rw [← hinv.out, drop_at ex, drop_at ey, Bool.eq_iff_iff]
        simp
       have Hst := Lib.hid hst
       clear hinv hx hy hc hc' hblt hblt' hst a0 a1 a2 b0 b1 b2 al bl
       obtain ⟨gA, gn, gc, gs⟩ := x
       obtain ⟨kA, kn, kc, ks⟩ := y
       simp only at *
       have Hnx := Lib.hid HX.out.len
       have Hny := Lib.hid HY.out.len
       go_wp2_with fail
       go_region_held3 (fun w' => w'.cell? ⟨w.heap.size, 2, none⟩ = some (.slice (some ⟨b, off, none⟩) xq xd) ∧ w'.cell? ⟨w.heap.size + 1, 2, none⟩ = some (.slice (some ⟨b', off', none⟩) xq yd) ∧ w'.cell? ⟨b, off + q, none⟩ = some (.slice gA gn gc) ∧ w'.cell? ⟨b', off' + q, none⟩ = some (.slice kA kn kc))
        (first
          | exact HS.out _ HbS.out
          | go_keep)
        (first
          | (go_at_call 38
             refine (sameE_c gA kA gn kn gc kc gs ks wr.drew Hnx.out Hny.out HX.out.max HY.out.max (HX.out.sl.after (Below.refl _ _).drew) (HY.out.sl.after (Below.refl _ _).drew)).mono ?_
             rintro e w9 ⟨rfl, hb9⟩
             have HbS : Hid (Below wr.heap.size wr w9) := Lib.hid (below_via (Below.refl _ _).drew hb9)
             clear hb9))
       have Hb2 := Lib.hid (below_via hb.out HbS.out)
       clear d0 d1 d2 d3 HS HX HY Hnx Hny
       obtain ⟨Z, hZ⟩ : ∃ Z, decide (gs = ks) = Z := ⟨_, rfl⟩
       rw [hZ] at Hst ⊢
       clear hZ
       cases Z
       · have hRf : false = R := by have := Hst.out; rw [Bool.false_and] at this; exact this
         subst hRf
         clear Hst
         go_wp2
         go_ret
         exact ⟨rfl, below_via Hb0.out Hb2.out⟩
       · have hst : decide ((xe.map (·.xs)).drop (q + 1) = (ye.map (·.xs)).drop (q + 1)) = R := by have := Hst.out; rw [Bool.true_and] at this; exact this
         have Hst2 := Lib.hid hst
         clear Hst hst
         go_wp2
         go_roundw
         case rel => exact ⟨q + 1, by omega, by go_num, Hb2, Hst2⟩
         case measure => simp [intOf]; omega
     · obtain rfl : q = xq := by omega
       have hRt : true = R := by
        have := hinv.out
        rw [show (xe.map (·.xs)).drop q = [] from List.drop_eq_nil_of_le (by rw [List.length_map, Hel.out]; omega), show (ye.map (·.xs)).drop q = [] from List.drop_eq_nil_of_le (by rw [List.length_map, Hfl.out]; omega)] at this
        exact this
       subst hRt
       clear hinv
       go_wp2
       go_ret
       exact ⟨rfl, Hbw.out⟩
end
end Go.Proofs.YtjgpmnffagdhlaaGreatDoor
namespace Go.Proofs.YtjgpmnffagdhlaaGreatDoor
open Go Go.RowKit Go
set_option maxRecDepth 100000
attribute [local go_sem ↓] Go.wp_at_zero Go.wp_at_succ
def onB (a b c d : Int) : Bool := decide (a = c) && decide (b = d)
theorem run_neO (w : World) (a b c d : Int) : (binOp .neq 26 (.agg #[.int .i64 a, .int .i64 b]) (.agg #[.int .i64 c, .int .i64 d])).run Tryz.prog w = .ok (.bool !(onB a b c d)) w := by
 have hi : ∃ i, Tryz.prog.info? 3 = some i := by
  have h : (Tryz.prog.info? 3).isSome = true := by kernel_rfl
  exact Option.isSome_iff_exists.1 h
 obtain ⟨i, hi⟩ := hi
 have hc : Tryz.prog.cellsOf 3 = 1 := by kernel_rfl
 have e : (Op.equalIn (9999 + 1) 26 (.agg #[.int .i64 a, .int .i64 b]) (.agg #[.int .i64 c, .int .i64 d])).run Tryz.prog w = .ok (onB a b c d) w := by
  rw [run_equalIn_array w 9999 _ _ Tryz.underlying26 hi, hc, show List.range 2 = [0, 1] from rfl]
  simp [Op.eqItems, go_sem, Tryz.underlying3]
  unfold onB
  by_cases h1 : a = c <;> by_cases h2 : b = d <;> simp [h1, h2]
 rw [run_neq_struct, e]; rfl
section
attribute [local go_sem ↓] run_neN run_neC run_neA run_neO
def Vm.cells (x : Vm) : Array Value := #[.string x.name, .string x.frm, .string x.wth, .int .i64 x.on0, .int .i64 x.on1, .slice x.whr.A x.whr.n x.whr.c, .slice x.pick.A x.pick.n x.pick.c, .bool x.grp, .slice x.aggs.A x.aggs.n x.aggs.c]
def Bv (w : World) (b : Nat) (x : Vm) : Prop := w.heap[b]? = some (.cells x.cells 32 (0, 0))
theorem Bv.after {w0 w : World} {b : Nat} {x : Vm} (h : Bv w0 b x) (hlt : b < w0.heap.size) (hb : Below w0.heap.size w0 w) : Bv w b x ∧ b < w.heap.size := ⟨(hb.block b hlt).trans h, Nat.lt_of_lt_of_le hlt hb.size⟩
theorem Bv.all {w : World} {b : Nat} {x : Vm} (h : Bv w b x) : w.cell? ⟨b, 0, none⟩ = some (.string x.name) ∧ w.cell? ⟨b, 1, none⟩ = some (.string x.frm) ∧ w.cell? ⟨b, 2, none⟩ = some (.string x.wth) ∧ w.cell? ⟨b, 3, none⟩ = some (.int .i64 x.on0) ∧ w.cell? ⟨b, 4, none⟩ = some (.int .i64 x.on1) ∧
 w.cell? ⟨b, 5, none⟩ = some (.slice x.whr.A x.whr.n x.whr.c) ∧ w.cell? ⟨b, 6, none⟩ = some (.slice x.pick.A x.pick.n x.pick.c) ∧ w.cell? ⟨b, 7, none⟩ = some (.bool x.grp) ∧ w.cell? ⟨b, 8, none⟩ = some (.slice x.aggs.A x.aggs.n x.aggs.c) := by
 unfold Bv at h
 refine ⟨?_, ?_, ?_, ?_, ?_, ?_, ?_, ?_, ?_⟩ <;> simp [World.cell?, h, Vm.cells]
set_option maxHeartbeats 4000000 in
theorem sameVw_c (x y : Vm) (w : World) (hx : x.In w) (hy : y.In w) :
 Calls Tryz.prog 19 #[x.w, y.w] w fun e w' => e = .returned (.bool (decide (x.vw = y.vw))) ∧ Below w.heap.size w w' := by
 have Hbx : Hid (Bv ((w.alloc (.cells x.cells 32)).alloc (.cells y.cells 32)) w.heap.size x) := by
  show ((w.alloc _).alloc _).heap[w.heap.size]? = _
  rw [Below.heap_alloc _ _ _ (by simp)]
  exact alloc_at w _ _
 have Hby : Hid (Bv ((w.alloc (.cells x.cells 32)).alloc (.cells y.cells 32)) (w.heap.size + 1) y) := by
  have h := alloc_at (w.alloc (.cells x.cells 32)) y.cells 32
  have hw : (w.alloc (.cells x.cells 32)).heap.size = w.heap.size + 1 := by simp
  rw [hw] at h
  exact h
 have Hb0 : Hid (Below w.heap.size w ((w.alloc (.cells x.cells 32)).alloc (.cells y.cells 32))) := Lib.hid ((below_one w _).alloc (by simp) _)
 have hW2 : w.heap.size + 1 < ((w.alloc (.cells x.cells 32)).alloc (.cells y.cells 32)).heap.size := by simp
 obtain ⟨xn, xf, xw, xo, xp, ⟨eA, en, ec, es⟩, ⟨pA, pn, pc, ps⟩, xg, ⟨aA, an, ac, az⟩⟩ := x
 obtain ⟨yn, yf, yw, yo, yp, ⟨fA, fn, fc, fs⟩, ⟨qA, qn, qc, qs⟩, yg, ⟨bA, bn, bc, bz⟩⟩ := y
 obtain ⟨R, hR⟩ : ∃ R, decide ((⟨xn, xf, xw, xo, xp, ⟨eA, en, ec, es⟩, ⟨pA, pn, pc, ps⟩, xg, ⟨aA, an, ac, az⟩⟩ : Vm).vw = (⟨yn, yf, yw, yo, yp, ⟨fA, fn, fc, fs⟩, ⟨qA, qn, qc, qs⟩, yg, ⟨bA, bn, bc, bz⟩⟩ : Vm).vw) = R := ⟨_, rfl⟩
 rw [hR]
 have hR2 : R = (decide (xn = yn) && (decide (xf = yf) && (decide (xw = yw) && (onB xo xp yo yp && (decide (es = fs) && (decide (ps = qs) && (decide (xg = yg) && decide (az = bz)))))))) := by
  rw [← hR, Bool.eq_iff_iff]
  unfold onB
  simp [Vm.vw, and_assoc]
 have HR := Lib.hid hR2
 obtain ⟨⟨el, em, esl⟩, ⟨pl, pm, psl⟩, ⟨al, am, asl⟩⟩ := hx
 obtain ⟨⟨fl, fm, fsl⟩, ⟨ql, qm, qsl⟩, ⟨bl, bm, bsl⟩⟩ := hy
 simp only at el em esl pl pm psl al am asl fl fm fsl ql qm qsl bl bm bsl
 have He := Lib.hid (fun w' (h : Below w.heap.size w w') => sameE_c eA fA en fn ec fc es fs w' el fl em fm (esl.after h) (fsl.after h))
 have Hp := Lib.hid (fun w' (h : Below w.heap.size w w') => sameInts_c pA qA pn qn pc qc ps qs w' pl ql pm qm (psl.after h) (qsl.after h))
 have Hal := Lib.hid al
 have Hbl := Lib.hid bl
 have Has := Lib.hid asl
 have Hbs := Lib.hid bsl
 unfold maxLen at am bm
 clear hR hR2 el em esl pl pm psl al asl fl fm fsl ql qm qsl bl bsl
 obtain ⟨W, hW⟩ : ∃ W, ((w.alloc (.cells (⟨xn, xf, xw, xo, xp, ⟨eA, en, ec, es⟩, ⟨pA, pn, pc, ps⟩, xg, ⟨aA, an, ac, az⟩⟩ : Vm).cells 32)).alloc (.cells (⟨yn, yf, yw, yo, yp, ⟨fA, fn, fc, fs⟩, ⟨qA, qn, qc, qs⟩, yg, ⟨bA, bn, bc, bz⟩⟩ : Vm).cells 32)) = W := ⟨_, rfl⟩
 have HWe : Hid (((w.alloc (.cells #[.string xn, .string xf, .string xw, .int .i64 xo, .int .i64 xp, .slice eA en ec, .slice pA pn pc, .bool xg, .slice aA an ac] 32)).alloc (.cells #[.string yn, .string yf, .string yw, .int .i64 yo, .int .i64 yp, .slice fA fn fc, .slice qA qn qc, .bool yg, .slice bA bn bc] 32)) = W) := hW
 rw [hW] at Hbx Hby Hb0 hW2
 clear hW
 have HX := Lib.hid (fun w' (hb : Below W.heap.size W w') => Bv.after Hbx.out (by omega) hb)
 have HY := Lib.hid (fun w' (hb : Below W.heap.size W w') => Bv.after Hby.out (by omega) hb)
 clear Hbx Hby
 by_cases h1 : xn = yn
 case neg =>
  have n1 : ¬ xn.toList = yn.toList := fun h => h1 (toList_inj h)
  have hRf : R = false := by
   rw [HR.out]
   simp [h1]
  subst hRf
  clear HR He Hp Hal Hbl Has Hbs HX HY
  clear h1
  go_enter Tryz.func19, Tryz.ntmps19
  go_wp2
  go_ret
  rw [HWe.out]
  exact ⟨rfl, Hb0.out⟩
 subst h1
 by_cases h2 : xf = yf
 case neg =>
  have n1 : ¬ xf.toList = yf.toList := fun h => h2 (toList_inj h)
  have hRf : R = false := by
   rw [HR.out]
   simp [h2]
  subst hRf
  clear HR He Hp Hal Hbl Has Hbs HX HY
  clear h2
  go_enter Tryz.func19, Tryz.ntmps19
  go_wp2
  go_ret
  rw [HWe.out]
  exact ⟨rfl, Hb0.out⟩
 subst h2
 by_cases h3 : xw = yw
 case neg =>
  have n1 : ¬ xw.toList = yw.toList := fun h => h3 (toList_inj h)
  have hRf : R = false := by
   rw [HR.out]
   simp [h3]
  subst hRf
  clear HR He Hp Hal Hbl Has Hbs HX HY
  clear h3
  go_enter Tryz.func19, Tryz.ntmps19
  go_wp2
  go_ret
  rw [HWe.out]
  exact ⟨rfl, Hb0.out⟩
 subst h3
 cases h4 : onB xo xp yo yp
 case false =>
  have hRf : R = false := by
   rw [HR.out, h4]
   simp
  subst hRf
  clear HR He Hp Hal Hbl Has Hbs HX HY
  go_enter Tryz.func19, Tryz.ntmps19
  go_wp2
  go_ret
  rw [HWe.out]
  exact ⟨rfl, Hb0.out⟩
 by_cases h5 : es = fs
 case neg =>
  have hRf : R = false := by
   rw [HR.out]
   simp [h5]
  subst hRf
  clear HR
  go_enter Tryz.func19, Tryz.ntmps19
  go_wp2_with fail
  rw [HWe.out]
  refine (He.out W Hb0.out).mono ?_
  rintro e w1 ⟨rfl, hb1⟩
  rw [decide_eq_false h5]
  have Hb1 := Lib.hid hb1
  clear hb1
  clear h5 He Hp Hal Hbl Has Hbs HX HY
  go_wp2
  go_ret
  exact ⟨rfl, below_via Hb0.out Hb1.out⟩
 subst h5
 by_cases h6 : ps = qs
 case neg =>
  have hRf : R = false := by
   rw [HR.out]
   simp [h6]
  subst hRf
  clear HR
  go_enter Tryz.func19, Tryz.ntmps19
  go_wp2_with fail
  rw [HWe.out]
  refine (He.out W Hb0.out).mono ?_
  rintro e w1 ⟨rfl, hb1⟩
  simp only [decide_true]
  have Hb1 := Lib.hid hb1
  clear hb1
  obtain ⟨hvx, hlx⟩ := HX.out _ Hb1.out
  obtain ⟨hvy, hly⟩ := HY.out _ Hb1.out
  obtain ⟨x0, x1, x2, x3, x4, x5, x6, x7, x8⟩ := hvx.all
  obtain ⟨y0, y1, y2, y3, y4, y5, y6, y7, y8⟩ := hvy.all
  simp only at x0 x1 x2 x3 x4 x5 x6 x7 x8 y0 y1 y2 y3 y4 y5 y6 y7 y8
  clear hvx hvy
  go_wp2_with fail
  refine (Hp.out w1 (below_via Hb0.out Hb1.out)).mono ?_
  rintro e w2 ⟨rfl, hb2⟩
  rw [decide_eq_false h6]
  have Hb2 := Lib.hid (below_via Hb1.out hb2)
  clear hb2 Hb1 x0 x1 x2 x3 x4 x5 x6 x7 x8 y0 y1 y2 y3 y4 y5 y6 y7 y8 hlx hly
  clear h6 He Hp Hal Hbl Has Hbs HX HY
  go_wp2
  go_ret
  exact ⟨rfl, below_via Hb0.out Hb2.out⟩
 subst h6
 by_cases h7 : xg = yg
 case neg =>
  have hRf : R = false := by
   rw [HR.out]
   simp [h7]
  subst hRf
  clear HR
  go_enter Tryz.func19, Tryz.ntmps19
  go_wp2_with fail
  rw [HWe.out]
  refine (He.out W Hb0.out).mono ?_
  rintro e w1 ⟨rfl, hb1⟩
  simp only [decide_true]
  have Hb1 := Lib.hid hb1
  clear hb1
  obtain ⟨hvx, hlx⟩ := HX.out _ Hb1.out
  obtain ⟨hvy, hly⟩ := HY.out _ Hb1.out
  obtain ⟨x0, x1, x2, x3, x4, x5, x6, x7, x8⟩ := hvx.all
  obtain ⟨y0, y1, y2, y3, y4, y5, y6, y7, y8⟩ := hvy.all
  simp only at x0 x1 x2 x3 x4 x5 x6 x7 x8 y0 y1 y2 y3 y4 y5 y6 y7 y8
  clear hvx hvy
  go_wp2_with fail
  refine (Hp.out w1 (below_via Hb0.out Hb1.out)).mono ?_
  rintro e w2 ⟨rfl, hb2⟩
  simp only [decide_true]
  have Hb2 := Lib.hid (below_via Hb1.out hb2)
  clear hb2 Hb1 x0 x1 x2 x3 x4 x5 x6 x7 x8 y0 y1 y2 y3 y4 y5 y6 y7 y8 hlx hly
  obtain ⟨hvx, hlx⟩ := HX.out _ Hb2.out
  obtain ⟨hvy, hly⟩ := HY.out _ Hb2.out
  obtain ⟨x0, x1, x2, x3, x4, x5, x6, x7, x8⟩ := hvx.all
  obtain ⟨y0, y1, y2, y3, y4, y5, y6, y7, y8⟩ := hvy.all
  simp only at x0 x1 x2 x3 x4 x5 x6 x7 x8 y0 y1 y2 y3 y4 y5 y6 y7 y8
  clear hvx hvy
  clear He Hp Hal Hbl Has Hbs HX HY
  have hyg : yg = !xg := by cases xg <;> cases yg <;> simp_all
  clear h7
  subst hyg
  cases xg <;> (simp only [Bool.not_true, Bool.not_false] at y7; go_wp2; go_ret; exact ⟨rfl, below_via Hb0.out Hb2.out⟩)
 subst h7
 by_cases h8 : an = bn
 case neg =>
  have hne : ((an : Int) != (bn : Int)) = true := by simpa using (by omega : ¬ (an : Int) = bn)
  have h9 : ¬ az = bz := fun h => h8 (by rw [← Hal.out, ← Hbl.out, h])
  have hRf : R = false := by
   rw [HR.out]
   simp [h9]
  subst hRf
  clear HR
  go_enter Tryz.func19, Tryz.ntmps19
  go_wp2_with fail
  rw [HWe.out]
  refine (He.out W Hb0.out).mono ?_
  rintro e w1 ⟨rfl, hb1⟩
  simp only [decide_true]
  have Hb1 := Lib.hid hb1
  clear hb1
  obtain ⟨hvx, hlx⟩ := HX.out _ Hb1.out
  obtain ⟨hvy, hly⟩ := HY.out _ Hb1.out
  obtain ⟨x0, x1, x2, x3, x4, x5, x6, x7, x8⟩ := hvx.all
  obtain ⟨y0, y1, y2, y3, y4, y5, y6, y7, y8⟩ := hvy.all
  simp only at x0 x1 x2 x3 x4 x5 x6 x7 x8 y0 y1 y2 y3 y4 y5 y6 y7 y8
  clear hvx hvy
  go_wp2_with fail
  refine (Hp.out w1 (below_via Hb0.out Hb1.out)).mono ?_
  rintro e w2 ⟨rfl, hb2⟩
  simp only [decide_true]
  have Hb2 := Lib.hid (below_via Hb1.out hb2)
  clear hb2 Hb1 x0 x1 x2 x3 x4 x5 x6 x7 x8 y0 y1 y2 y3 y4 y5 y6 y7 y8 hlx hly
  obtain ⟨hvx, hlx⟩ := HX.out _ Hb2.out
  obtain ⟨hvy, hly⟩ := HY.out _ Hb2.out
  obtain ⟨x0, x1, x2, x3, x4, x5, x6, x7, x8⟩ := hvx.all
  obtain ⟨y0, y1, y2, y3, y4, y5, y6, y7, y8⟩ := hvy.all
  simp only at x0 x1 x2 x3 x4 x5 x6 x7 x8 y0 y1 y2 y3 y4 y5 y6 y7 y8
  clear hvx hvy
  clear h9 He Hp Hal Hbl Has Hbs HX HY
  go_wp2
  go_ret
  exact ⟨rfl, below_via Hb0.out Hb2.out⟩
 subst h8
 have HR4 : Hid (decide (az = bz) = R) := Lib.hid (by rw [HR.out, h4]; simp)
 clear HR
 go_enter Tryz.func19, Tryz.ntmps19
 go_wp2_with fail
 rw [HWe.out]
 refine (He.out W Hb0.out).mono ?_
 rintro e w1 ⟨rfl, hb1⟩
 simp only [decide_true]
 have Hb1 := Lib.hid hb1
 clear hb1
 obtain ⟨hvx, hlx⟩ := HX.out _ Hb1.out
 obtain ⟨hvy, hly⟩ := HY.out _ Hb1.out
 obtain ⟨x0, x1, x2, x3, x4, x5, x6, x7, x8⟩ := hvx.all
 obtain ⟨y0, y1, y2, y3, y4, y5, y6, y7, y8⟩ := hvy.all
 simp only at x0 x1 x2 x3 x4 x5 x6 x7 x8 y0 y1 y2 y3 y4 y5 y6 y7 y8
 clear hvx hvy
 go_wp2_with fail
 refine (Hp.out w1 (below_via Hb0.out Hb1.out)).mono ?_
 rintro e w2 ⟨rfl, hb2⟩
 simp only [decide_true]
 have Hb2 := Lib.hid (below_via Hb1.out hb2)
 clear hb2 Hb1 x0 x1 x2 x3 x4 x5 x6 x7 x8 y0 y1 y2 y3 y4 y5 y6 y7 y8 hlx hly
 obtain ⟨hvx, hlx⟩ := HX.out _ Hb2.out
 obtain ⟨hvy, hly⟩ := HY.out _ Hb2.out
 obtain ⟨x0, x1, x2, x3, x4, x5, x6, x7, x8⟩ := hvx.all
 obtain ⟨y0, y1, y2, y3, y4, y5, y6, y7, y8⟩ := hvy.all
 simp only at x0 x1 x2 x3 x4 x5 x6 x7 x8 y0 y1 y2 y3 y4 y5 y6 y7 y8
 clear hvx hvy
 clear He Hp
 go_wp2_with fail
 have HW2 := Lib.hid Hb2.out
 have HbW2 := HW2
 go_loopw [5] (fun i wr => ∃ k : Nat, k ≤ an ∧ i = .int .i64 k ∧ Hid (Below W.heap.size W wr) ∧ Hid (decide (az.drop k = bz.drop k) = R)) (fun i _ => an - (intOf i).toNat)
 case atStart => exact ⟨0, Nat.zero_le _, rfl, HbW2, HR4⟩
 case round =>
  clear HR4 HW2 HbW2 Hb2 x0 x1 x2 x3 x4 x5 x6 x7 x8 y0 y1 y2 y3 y4 y5 y6 y7 y8 hlx hly
  obtain ⟨k, hk, rfl, hb, hinv⟩ := hrel
  obtain ⟨hvx, hlx⟩ := HX.out _ hb.out
  obtain ⟨hvy, hly⟩ := HY.out _ hb.out
  obtain ⟨x0, x1, x2, x3, x4, x5, x6, x7, x8⟩ := hvx.all
  obtain ⟨y0, y1, y2, y3, y4, y5, y6, y7, y8⟩ := hvy.all
  simp only at x0 x1 x2 x3 x4 x5 x6 x7 x8 y0 y1 y2 y3 y4 y5 y6 y7 y8
  clear hvx hvy x0 x1 x2 x3 x4 x5 x6 x7 y0 y1 y2 y3 y4 y5 y6 y7
  have Hbw := Lib.hid (below_via Hb0.out hb.out)
  by_cases hlt : k < an
  · obtain ⟨b, off, x, rfl, hblt, hx, hc⟩ := Has.out.atS (by rw [Hal.out]; exact hlt)
    obtain ⟨b', off', y, rfl, hblt', hy, hc'⟩ := Hbs.out.atS (by rw [Hbl.out]; exact hlt)
    have d0 := (Hbw.out.cell (p := ⟨b, off + k * 2, none⟩) hblt).trans (by have := hc 0 _ rfl; simpa using this)
    have d1 := (Hbw.out.cell (p := ⟨b, off + k * 2 + 1, none⟩) hblt).trans (hc 1 _ rfl)
    have f0 := (Hbw.out.cell (p := ⟨b', off' + k * 2, none⟩) hblt').trans (by have := hc' 0 _ rfl; simpa using this)
    have f1 := (Hbw.out.cell (p := ⟨b', off' + k * 2 + 1, none⟩) hblt').trans (hc' 1 _ rfl)
    have l1 : b < wr.heap.size := Nat.lt_of_lt_of_le hblt Hbw.out.size
    have l2 : b' < wr.heap.size := Nat.lt_of_lt_of_le hblt' Hbw.out.size
    have hst : (decide (x = y) && decide (az.drop (k + 1) = bz.drop (k + 1))) = R := by
     rw [← hinv.out, drop_at hx, drop_at hy, Bool.eq_iff_iff]
     simp
    have Hst := Lib.hid hst
    clear hinv hx hy hc hc' hblt hblt' hst
    obtain ⟨xf1, xc1⟩ := x
    obtain ⟨yf1, yc1⟩ := y
    simp only at *
    go_wp2_with fail
    go_region
    have hE : Ag.eqB ⟨xf1, xc1⟩ ⟨yf1, yc1⟩ = decide ((⟨xf1, xc1⟩ : Ag) = ⟨yf1, yc1⟩) := rfl
    rw [hE]
    obtain ⟨Z, hZ⟩ : ∃ Z, decide ((⟨xf1, xc1⟩ : Ag) = ⟨yf1, yc1⟩) = Z := ⟨_, rfl⟩
    rw [hZ] at Hst ⊢
    have Hb3 := Lib.hid hb.out.drew
    clear hE hZ d0 d1 f0 f1 x8 y8
    cases Z
    · have hRf : false = R := by have := Hst.out; rw [Bool.false_and] at this; exact this
      subst hRf
      clear Hst
      go_wp2
      go_ret
      exact ⟨rfl, below_via Hb0.out Hb3.out⟩
    · have hst : decide (az.drop (k + 1) = bz.drop (k + 1)) = R := by have := Hst.out; rw [Bool.true_and] at this; exact this
      have Hst2 := Lib.hid hst
      clear Hst hst
      go_wp2
      go_roundw
      case rel => exact ⟨k + 1, by omega, by go_num, Hb3, Hst2⟩
      case measure => simp [intOf]; omega
  · obtain rfl : k = an := by omega
    have hRt : true = R := by
     have := hinv.out
     rw [show az.drop k = [] from List.drop_eq_nil_of_le (by rw [Hal.out]; omega), show bz.drop k = [] from List.drop_eq_nil_of_le (by rw [Hbl.out]; omega)] at this
     exact this
    subst hRt
    clear hinv
    go_wp2
    go_ret
    exact ⟨rfl, Hbw.out⟩
end
end Go.Proofs.YtjgpmnffagdhlaaGreatDoor
namespace Go.Proofs.YtjgpmnffagdhlaaGreatDoor
open Go Go.RowKit Go
set_option maxRecDepth 100000
attribute [local go_sem ↓] Go.wp_at_zero Go.wp_at_succ
def Dm.cells (x : Dm) : Array Value := #[.int .i64 x.k, .string x.t.name, .slice x.t.cols.A x.t.cols.n x.t.cols.c, .slice x.t.chks.A x.t.chks.n x.t.chks.c, .string x.v.name, .string x.v.frm, .string x.v.wth, .int .i64 x.v.on0, .int .i64 x.v.on1, .slice x.v.whr.A x.v.whr.n x.v.whr.c, .slice x.v.pick.A x.v.pick.n x.v.pick.c, .bool x.v.grp, .slice x.v.aggs.A x.v.aggs.n x.v.aggs.c]
def Bd (w : World) (b : Nat) (x : Dm) : Prop := w.heap[b]? = some (.cells x.cells 34 (0, 0))
theorem Bd.after {w0 w : World} {b : Nat} {x : Dm} (h : Bd w0 b x) (hlt : b < w0.heap.size) (hb : Below w0.heap.size w0 w) : Bd w b x ∧ b < w.heap.size := ⟨(hb.block b hlt).trans h, Nat.lt_of_lt_of_le hlt hb.size⟩
theorem Bd.all {w : World} {b : Nat} {x : Dm} (h : Bd w b x) : w.cell? ⟨b, 0, none⟩ = some (.int .i64 x.k) ∧ w.cell? ⟨b, 1, none⟩ = some (.string x.t.name) ∧ w.cell? ⟨b, 2, none⟩ = some (.slice x.t.cols.A x.t.cols.n x.t.cols.c) ∧ w.cell? ⟨b, 3, none⟩ = some (.slice x.t.chks.A x.t.chks.n x.t.chks.c) ∧
 w.cell? ⟨b, 4, none⟩ = some (.string x.v.name) ∧ w.cell? ⟨b, 5, none⟩ = some (.string x.v.frm) ∧ w.cell? ⟨b, 6, none⟩ = some (.string x.v.wth) ∧ w.cell? ⟨b, 7, none⟩ = some (.int .i64 x.v.on0) ∧ w.cell? ⟨b, 8, none⟩ = some (.int .i64 x.v.on1) ∧
 w.cell? ⟨b, 9, none⟩ = some (.slice x.v.whr.A x.v.whr.n x.v.whr.c) ∧ w.cell? ⟨b, 10, none⟩ = some (.slice x.v.pick.A x.v.pick.n x.v.pick.c) ∧ w.cell? ⟨b, 11, none⟩ = some (.bool x.v.grp) ∧ w.cell? ⟨b, 12, none⟩ = some (.slice x.v.aggs.A x.v.aggs.n x.v.aggs.c) := by
 unfold Bd at h
 refine ⟨?_, ?_, ?_, ?_, ?_, ?_, ?_, ?_, ?_, ?_, ?_, ?_, ?_⟩ <;> simp [World.cell?, h, Dm.cells]
set_option maxHeartbeats 2000000 in
theorem sameD_c (x y : Dm) (w : World) (hx : x.In w) (hy : y.In w) :
 Calls Tryz.prog 18 #[x.w, y.w] w fun e w' => e = .returned (.bool (decide (x.df = y.df))) ∧ Below w.heap.size w w' := by
 have Hbx : Hid (Bd ((w.alloc (.cells x.cells 34)).alloc (.cells y.cells 34)) w.heap.size x) := by
  show ((w.alloc _).alloc _).heap[w.heap.size]? = _
  rw [Below.heap_alloc _ _ _ (by simp)]
  exact alloc_at w _ _
 have Hby : Hid (Bd ((w.alloc (.cells x.cells 34)).alloc (.cells y.cells 34)) (w.heap.size + 1) y) := by
  have h := alloc_at (w.alloc (.cells x.cells 34)) y.cells 34
  have hw : (w.alloc (.cells x.cells 34)).heap.size = w.heap.size + 1 := by simp
  rw [hw] at h
  exact h
 have Hb0 : Hid (Below w.heap.size w ((w.alloc (.cells x.cells 34)).alloc (.cells y.cells 34))) := Lib.hid ((below_one w _).alloc (by simp) _)
 have hW2 : w.heap.size + 1 < ((w.alloc (.cells x.cells 34)).alloc (.cells y.cells 34)).heap.size := by simp
 obtain ⟨W, hW⟩ : ∃ W, ((w.alloc (.cells x.cells 34)).alloc (.cells y.cells 34)) = W := ⟨_, rfl⟩
 obtain ⟨xk, xt, xv⟩ := x
 obtain ⟨yk, yt, yv⟩ := y
 have HWe : Hid (((w.alloc (.cells #[.int .i64 xk, .string xt.name, .slice xt.cols.A xt.cols.n xt.cols.c, .slice xt.chks.A xt.chks.n xt.chks.c, .string xv.name, .string xv.frm, .string xv.wth, .int .i64 xv.on0, .int .i64 xv.on1, .slice xv.whr.A xv.whr.n xv.whr.c, .slice xv.pick.A xv.pick.n xv.pick.c, .bool xv.grp, .slice xv.aggs.A xv.aggs.n xv.aggs.c] 34)).alloc (.cells #[.int .i64 yk, .string yt.name, .slice yt.cols.A yt.cols.n yt.cols.c, .slice yt.chks.A yt.chks.n yt.chks.c, .string yv.name, .string yv.frm, .string yv.wth, .int .i64 yv.on0, .int .i64 yv.on1, .slice yv.whr.A yv.whr.n yv.whr.c, .slice yv.pick.A yv.pick.n yv.pick.c, .bool yv.grp, .slice yv.aggs.A yv.aggs.n yv.aggs.c] 34)) = W) := hW
 rw [hW] at Hbx Hby Hb0 hW2
 clear hW
 have HX := Lib.hid (fun w' (hb : Below W.heap.size W w') => Bd.after Hbx.out (by omega) hb)
 have HY := Lib.hid (fun w' (hb : Below W.heap.size W w') => Bd.after Hby.out (by omega) hb)
 clear Hbx Hby
 obtain ⟨R, hR⟩ : ∃ R, decide ((⟨xk, xt, xv⟩ : Dm).df = (⟨yk, yt, yv⟩ : Dm).df) = R := ⟨_, rfl⟩
 rw [hR]
 have hR2 : R = (decide (xk = yk) && (decide (xt.tb = yt.tb) && decide (xv.vw = yv.vw))) := by
  rw [← hR, Bool.eq_iff_iff]
  simp [Dm.df]
 have HR := Lib.hid hR2
 have HT := Lib.hid (fun w' (h : Below w.heap.size w w') => sameTb_c xt yt w' (hx.t.after h) (hy.t.after h))
 have HV := Lib.hid (fun w' (h : Below w.heap.size w w') => sameVw_c xv yv w' (hx.v.after h) (hy.v.after h))
 clear hR hR2 hx hy
 obtain ⟨Z1, hZ1⟩ : ∃ Z, decide (xt.tb = yt.tb) = Z := ⟨_, rfl⟩
 obtain ⟨Z2, hZ2⟩ : ∃ Z, decide (xv.vw = yv.vw) = Z := ⟨_, rfl⟩
 rw [hZ1] at HT HR
 rw [hZ2] at HV HR
 clear hZ1 hZ2
 by_cases h1 : xk = yk
 case neg =>
  have hRf : R = false := by
   rw [HR.out]
   simp [h1]
  subst hRf
  clear HR HT HV HX HY
  go_enter Tryz.func18, Tryz.ntmps18
  go_wp2
  go_ret
  rw [HWe.out]
  exact ⟨rfl, Hb0.out⟩
 subst h1
 have hR3 : R = (Z1 && Z2) := by rw [HR.out]; simp
 have HR3 := Lib.hid hR3
 clear HR hR3
 go_enter Tryz.func18, Tryz.ntmps18
 go_wp2_with fail
 rw [HWe.out]
 refine (HT.out W Hb0.out).mono ?_
 rintro e w1 ⟨rfl, hb1⟩
 have Hb1 := Lib.hid hb1
 clear hb1
 cases Z1
 · obtain rfl : R = false := HR3.out
   clear HT HV HX HY
   go_wp2
   go_ret
   exact ⟨rfl, below_via Hb0.out Hb1.out⟩
 obtain rfl : R = Z2 := by rw [HR3.out]; rfl
 obtain ⟨hvx, hlx⟩ := HX.out _ Hb1.out
 obtain ⟨hvy, hly⟩ := HY.out _ Hb1.out
 obtain ⟨x0, x1, x2, x3, x4, x5, x6, x7, x8, x9, x10, x11, x12⟩ := hvx.all
 obtain ⟨y0, y1, y2, y3, y4, y5, y6, y7, y8, y9, y10, y11, y12⟩ := hvy.all
 simp only at x0 x1 x2 x3 x4 x5 x6 x7 x8 x9 x10 x11 x12 y0 y1 y2 y3 y4 y5 y6 y7 y8 y9 y10 y11 y12
 clear hvx hvy HX HY HT HR3
 go_wp2_with fail
 refine (HV.out w1 (below_via Hb0.out Hb1.out)).mono ?_
 rintro e w2 ⟨rfl, hb2⟩
 have Hb2 := Lib.hid (below_via Hb1.out hb2)
 clear hb2 HV x0 x1 x2 x3 x4 x5 x6 x7 x8 x9 x10 x11 x12 y0 y1 y2 y3 y4 y5 y6 y7 y8 y9 y10 y11 y12
 go_wp2
 go_ret
 exact ⟨rfl, below_via Hb0.out Hb2.out⟩
end Go.Proofs.YtjgpmnffagdhlaaGreatDoor
namespace Go.Proofs.YtjgpmnffagdhlaaGreatDoor
open Go Go.RowKit
set_option maxRecDepth 100000
attribute [local go_sem ↓] Go.wp_at_zero Go.wp_at_succ
theorem run_eqO (w : World) (a b c d : Int) : (binOp .eql 26 (.agg #[.int .i64 a, .int .i64 b]) (.agg #[.int .i64 c, .int .i64 d])).run Tryz.prog w = .ok (.bool (onB a b c d)) w := by
 have hi : ∃ i, Tryz.prog.info? 3 = some i := by
  have h : (Tryz.prog.info? 3).isSome = true := by kernel_rfl
  exact Option.isSome_iff_exists.1 h
 obtain ⟨i, hi⟩ := hi
 have hc : Tryz.prog.cellsOf 3 = 1 := by kernel_rfl
 have e : (Op.equalIn (9999 + 1) 26 (.agg #[.int .i64 a, .int .i64 b]) (.agg #[.int .i64 c, .int .i64 d])).run Tryz.prog w = .ok (onB a b c d) w := by
  rw [run_equalIn_array w 9999 _ _ Tryz.underlying26 hi, hc, show List.range 2 = [0, 1] from rfl]
  simp [Op.eqItems, go_sem, Tryz.underlying3]
  unfold onB
  by_cases h1 : a = c <;> by_cases h2 : b = d <;> simp [h1, h2]
 rw [run_eql_struct, e]; rfl
section
attribute [local go_sem ↓] run_eqO
set_option maxHeartbeats 4000000 in
theorem smTb_c (x y : Tm) (w : World) (hx : x.In w) (hy : y.In w) :
 Calls Tryz.prog 85 #[x.w, y.w] w fun e w' => e = .returned (.bool (decide (x.tb = y.tb))) ∧ Below w.heap.size w w' := by
 obtain ⟨xn, ⟨xA, xm, xc, xs⟩, ⟨xB, xq, xd, xe⟩⟩ := x
 obtain ⟨yn, ⟨yA, ym, yc, ys⟩, ⟨yB, yq, yd, ye⟩⟩ := y
 have HC := Lib.hid (fun u (h : Below w.heap.size w u) => eqC_c xA yA xm ym xc yc xs ys u hx.cols.len hy.cols.len hx.cols.max hy.cols.max (hx.cols.sl.after h) (hy.cols.sl.after h))
 have HE := Lib.hid (fun u (h : Below w.heap.size w u) => eqF_c xB yB xq yq xd yd xe ye u hx.chks.len hy.chks.len hx.chks.max hy.chks.max (hx.chks.sl.after h) (hy.chks.sl.after h) (fun e he => (hx.each e he).after h) (fun e he => (hy.each e he).after h))
 obtain ⟨R, hR⟩ : ∃ R, decide ((⟨xn, ⟨xA, xm, xc, xs⟩, ⟨xB, xq, xd, xe⟩⟩ : Tm).tb = (⟨yn, ⟨yA, ym, yc, ys⟩, ⟨yB, yq, yd, ye⟩⟩ : Tm).tb) = R := ⟨_, rfl⟩
 rw [hR]
 obtain ⟨Z1, hZ1⟩ : ∃ Z, decide (xs = ys) = Z := ⟨_, rfl⟩
 obtain ⟨Z2, hZ2⟩ : ∃ Z, decide (xe.map (·.xs) = ye.map (·.xs)) = Z := ⟨_, rfl⟩
 have hR2 : R = (decide (xn = yn) && (Z1 && Z2)) := by
  rw [← hR, ← hZ1, ← hZ2, Bool.eq_iff_iff]
  simp [Tm.tb]
 have HR := Lib.hid hR2
 rw [hZ1] at HC
 rw [hZ2] at HE
 clear hR hR2 hZ1 hZ2 hx hy
 obtain ⟨W, hW⟩ : ∃ W, ((w.alloc (.cells #[.string xn, .slice xA xm xc, .slice xB xq xd] 25)).alloc (.cells #[.string yn, .slice yA ym yc, .slice yB yq yd] 25)) = W := ⟨_, rfl⟩
 have HX : Hid (Bk W w.heap.size #[.string xn, .slice xA xm xc, .slice xB xq xd] 25) := Lib.hid (by rw [← hW]; exact (Bk.new w _ _).after (below_one _ _) (by simp))
 have HY : Hid (Bk W (w.heap.size + 1) #[.string yn, .slice yA ym yc, .slice yB yq yd] 25) := Lib.hid (by
  rw [← hW]
  have := Bk.new (w.alloc (.cells #[.string xn, .slice xA xm xc, .slice xB xq xd] 25)) #[.string yn, .slice yA ym yc, .slice yB yq yd] 25
  simpa using this)
 have Hb0 : Hid (Below w.heap.size w W) := Lib.hid (by rw [← hW]; exact (below_one w _).alloc (by simp) _)
 have HWe := Lib.hid hW
 clear hW
 by_cases h1 : xn = yn
 case neg =>
  have n1 : ¬ xn.toList = yn.toList := fun h => h1 (toList_inj h)
  have hRf : R = false := by rw [HR.out, decide_eq_false h1]; rfl
  subst hRf
  clear HR HC HE HX HY h1
  go_enter Tryz.func85, Tryz.ntmps85
  go_wp2
  go_ret
  rw [HWe.out]
  exact ⟨rfl, Hb0.out⟩
 subst h1
 have HR2 : Hid ((Z1 && Z2) = R) := Lib.hid (by rw [HR.out]; simp)
 clear HR
 go_enter Tryz.func85, Tryz.ntmps85
 go_wp2_with fail
 rw [HWe.out]
 refine (HC.out W Hb0.out).mono ?_
 rintro e w1 ⟨rfl, hb1⟩
 have Hb1 := Lib.hid hb1
 clear hb1
 cases Z1
 · obtain rfl : false = R := HR2.out
   clear HR2 HC HE HX HY
   go_wp2
   go_ret
   exact ⟨rfl, below_via Hb0.out Hb1.out⟩
 · obtain rfl : Z2 = R := HR2.out
   have kx := Bk.after HX.out Hb1.out (by have := HX.out.lt; have := Hb1.out.size; omega)
   have ky := Bk.after HY.out Hb1.out (by have := HY.out.lt; have := Hb1.out.size; omega)
   have x0 : w1.cell? ⟨w.heap.size, 0, none⟩ = some (.string xn) := kx.cell 0
   have x1 : w1.cell? ⟨w.heap.size, 1, none⟩ = some (.slice xA xm xc) := kx.cell 1
   have x2 : w1.cell? ⟨w.heap.size, 2, none⟩ = some (.slice xB xq xd) := kx.cell 2
   have y0 : w1.cell? ⟨w.heap.size + 1, 0, none⟩ = some (.string xn) := ky.cell 0
   have y1 : w1.cell? ⟨w.heap.size + 1, 1, none⟩ = some (.slice yA ym yc) := ky.cell 1
   have y2 : w1.cell? ⟨w.heap.size + 1, 2, none⟩ = some (.slice yB yq yd) := ky.cell 2
   have kxl := kx.lt
   have kyl := ky.lt
   clear kx ky
   clear HR2 HC HX HY
   go_wp2_with fail
   refine (HE.out w1 (below_via Hb0.out Hb1.out)).mono ?_
   rintro e w2 ⟨rfl, hb2⟩
   have Hb2 := Lib.hid (below_via Hb1.out hb2)
   clear x0 x1 x2 y0 y1 y2 kxl kyl
   clear hb2 HE
   cases Z2
   all_goals
    go_wp2
    go_ret
    exact ⟨rfl, below_via Hb0.out Hb2.out⟩
set_option maxHeartbeats 8000000 in
theorem smVw_c (x y : Vm) (w : World) (hx : x.In w) (hy : y.In w) :
 Calls Tryz.prog 86 #[x.w, y.w] w fun e w' => e = .returned (.bool (decide (x.vw = y.vw))) ∧ Below w.heap.size w w' := by
 obtain ⟨xn, xf, xw, xo, xp, ⟨eA, en, ec, es⟩, ⟨pA, pn, pc, ps⟩, xg, ⟨aA, an, ac, az⟩⟩ := x
 obtain ⟨yn, yf, yw, yo, yp, ⟨fA, fn, fc, fs⟩, ⟨qA, qn, qc, qs⟩, yg, ⟨bA, bn, bc, bz⟩⟩ := y
 have HE := Lib.hid (fun u (h : Below w.heap.size w u) => smE_c eA fA en fn ec fc es fs u hx.whr.len hy.whr.len hx.whr.max hy.whr.max (hx.whr.sl.after h) (hy.whr.sl.after h))
 have HP := Lib.hid (fun u (h : Below w.heap.size w u) => eqI_c pA qA pn qn pc qc ps qs u hx.pick.len hy.pick.len hx.pick.max hy.pick.max (hx.pick.sl.after h) (hy.pick.sl.after h))
 have HA := Lib.hid (fun u (h : Below w.heap.size w u) => eqA_c aA bA an bn ac bc az bz u hx.aggs.len hy.aggs.len hx.aggs.max hy.aggs.max (hx.aggs.sl.after h) (hy.aggs.sl.after h))
 obtain ⟨R, hR⟩ : ∃ R, decide ((⟨xn, xf, xw, xo, xp, ⟨eA, en, ec, es⟩, ⟨pA, pn, pc, ps⟩, xg, ⟨aA, an, ac, az⟩⟩ : Vm).vw = (⟨yn, yf, yw, yo, yp, ⟨fA, fn, fc, fs⟩, ⟨qA, qn, qc, qs⟩, yg, ⟨bA, bn, bc, bz⟩⟩ : Vm).vw) = R := ⟨_, rfl⟩
 rw [hR]
 obtain ⟨Z1, hZ1⟩ : ∃ Z, decide (es = fs) = Z := ⟨_, rfl⟩
 obtain ⟨Z2, hZ2⟩ : ∃ Z, decide (ps = qs) = Z := ⟨_, rfl⟩
 obtain ⟨Z3, hZ3⟩ : ∃ Z, decide (az = bz) = Z := ⟨_, rfl⟩
 have hR2 : R = (decide (xn = yn) && (decide (xf = yf) && (decide (xw = yw) && (onB xo xp yo yp && (Z1 && (Z2 && (decide (xg = yg) && Z3))))))) := by
  rw [← hR, ← hZ1, ← hZ2, ← hZ3, Bool.eq_iff_iff]
  unfold onB
  simp [Vm.vw, and_assoc]
 have HR := Lib.hid hR2
 rw [hZ1] at HE
 rw [hZ2] at HP
 rw [hZ3] at HA
 clear hR hR2 hZ1 hZ2 hZ3 hx hy
 obtain ⟨W, hW⟩ : ∃ W, ((w.alloc (.cells #[.string xn, .string xf, .string xw, .int .i64 xo, .int .i64 xp, .slice eA en ec, .slice pA pn pc, .bool xg, .slice aA an ac] 32)).alloc (.cells #[.string yn, .string yf, .string yw, .int .i64 yo, .int .i64 yp, .slice fA fn fc, .slice qA qn qc, .bool yg, .slice bA bn bc] 32)) = W := ⟨_, rfl⟩
 have HX : Hid (Bk W w.heap.size #[.string xn, .string xf, .string xw, .int .i64 xo, .int .i64 xp, .slice eA en ec, .slice pA pn pc, .bool xg, .slice aA an ac] 32) := Lib.hid (by rw [← hW]; exact (Bk.new w _ _).after (below_one _ _) (by simp))
 have HY : Hid (Bk W (w.heap.size + 1) #[.string yn, .string yf, .string yw, .int .i64 yo, .int .i64 yp, .slice fA fn fc, .slice qA qn qc, .bool yg, .slice bA bn bc] 32) := Lib.hid (by
  rw [← hW]
  have := Bk.new (w.alloc (.cells #[.string xn, .string xf, .string xw, .int .i64 xo, .int .i64 xp, .slice eA en ec, .slice pA pn pc, .bool xg, .slice aA an ac] 32)) #[.string yn, .string yf, .string yw, .int .i64 yo, .int .i64 yp, .slice fA fn fc, .slice qA qn qc, .bool yg, .slice bA bn bc] 32
  simpa using this)
 have Hb0 : Hid (Below w.heap.size w W) := Lib.hid (by rw [← hW]; exact (below_one w _).alloc (by simp) _)
 have HWe := Lib.hid hW
 clear hW
 by_cases h1 : xn = yn
 case neg =>
  have n1 : ¬ xn.toList = yn.toList := fun h => h1 (toList_inj h)
  have hRf : R = false := by
   rw [HR.out]
   simp [h1]
  subst hRf
  clear HR HE HP HA HX HY h1
  go_enter Tryz.func86, Tryz.ntmps86
  go_wp2
  go_ret
  rw [HWe.out]
  exact ⟨rfl, Hb0.out⟩
 subst h1
 by_cases h2 : xf = yf
 case neg =>
  have n1 : ¬ xf.toList = yf.toList := fun h => h2 (toList_inj h)
  have hRf : R = false := by
   rw [HR.out]
   simp [h2]
  subst hRf
  clear HR HE HP HA HX HY h2
  go_enter Tryz.func86, Tryz.ntmps86
  go_wp2
  go_ret
  rw [HWe.out]
  exact ⟨rfl, Hb0.out⟩
 subst h2
 by_cases h3 : xw = yw
 case neg =>
  have n1 : ¬ xw.toList = yw.toList := fun h => h3 (toList_inj h)
  have hRf : R = false := by
   rw [HR.out]
   simp [h3]
  subst hRf
  clear HR HE HP HA HX HY h3
  go_enter Tryz.func86, Tryz.ntmps86
  go_wp2
  go_ret
  rw [HWe.out]
  exact ⟨rfl, Hb0.out⟩
 subst h3
 cases h4 : onB xo xp yo yp
 case false =>
  have hRf : R = false := by
   rw [HR.out]
   simp [h4]
  subst hRf
  clear HR HE HP HA HX HY
  go_enter Tryz.func86, Tryz.ntmps86
  go_wp2
  go_ret
  rw [HWe.out]
  exact ⟨rfl, Hb0.out⟩
 have HR2 : Hid ((Z1 && (Z2 && (decide (xg = yg) && Z3))) = R) := Lib.hid (by rw [HR.out, h4]; simp)
 clear HR
 go_enter Tryz.func86, Tryz.ntmps86
 go_wp2_with fail
 rw [HWe.out]
 refine (HE.out W Hb0.out).mono ?_
 rintro e w1 ⟨rfl, hb1⟩
 have Hb1 := Lib.hid hb1
 clear hb1
 cases Z1
 · obtain rfl : false = R := HR2.out
   clear HR2 HE HP HA HX HY
   go_wp2
   go_ret
   exact ⟨rfl, below_via Hb0.out Hb1.out⟩
 · have HR3 : Hid ((Z2 && (decide (xg = yg) && Z3)) = R) := HR2
   have kx := Bk.after HX.out Hb1.out (by have := HX.out.lt; have := Hb1.out.size; omega)
   have ky := Bk.after HY.out Hb1.out (by have := HY.out.lt; have := Hb1.out.size; omega)
   have x0 : w1.cell? ⟨w.heap.size, 0, none⟩ = some (.string xn) := kx.cell 0
   have x1 : w1.cell? ⟨w.heap.size, 1, none⟩ = some (.string xf) := kx.cell 1
   have x2 : w1.cell? ⟨w.heap.size, 2, none⟩ = some (.string xw) := kx.cell 2
   have x3 : w1.cell? ⟨w.heap.size, 3, none⟩ = some (.int .i64 xo) := kx.cell 3
   have x4 : w1.cell? ⟨w.heap.size, 4, none⟩ = some (.int .i64 xp) := kx.cell 4
   have x5 : w1.cell? ⟨w.heap.size, 5, none⟩ = some (.slice eA en ec) := kx.cell 5
   have x6 : w1.cell? ⟨w.heap.size, 6, none⟩ = some (.slice pA pn pc) := kx.cell 6
   have x7 : w1.cell? ⟨w.heap.size, 7, none⟩ = some (.bool xg) := kx.cell 7
   have x8 : w1.cell? ⟨w.heap.size, 8, none⟩ = some (.slice aA an ac) := kx.cell 8
   have y0 : w1.cell? ⟨w.heap.size + 1, 0, none⟩ = some (.string xn) := ky.cell 0
   have y1 : w1.cell? ⟨w.heap.size + 1, 1, none⟩ = some (.string xf) := ky.cell 1
   have y2 : w1.cell? ⟨w.heap.size + 1, 2, none⟩ = some (.string xw) := ky.cell 2
   have y3 : w1.cell? ⟨w.heap.size + 1, 3, none⟩ = some (.int .i64 yo) := ky.cell 3
   have y4 : w1.cell? ⟨w.heap.size + 1, 4, none⟩ = some (.int .i64 yp) := ky.cell 4
   have y5 : w1.cell? ⟨w.heap.size + 1, 5, none⟩ = some (.slice fA fn fc) := ky.cell 5
   have y6 : w1.cell? ⟨w.heap.size + 1, 6, none⟩ = some (.slice qA qn qc) := ky.cell 6
   have y7 : w1.cell? ⟨w.heap.size + 1, 7, none⟩ = some (.bool yg) := ky.cell 7
   have y8 : w1.cell? ⟨w.heap.size + 1, 8, none⟩ = some (.slice bA bn bc) := ky.cell 8
   have kxl := kx.lt
   have kyl := ky.lt
   clear kx ky
   clear HR2 HE
   go_wp2_with fail
   refine (HP.out w1 (below_via Hb0.out Hb1.out)).mono ?_
   rintro e w2 ⟨rfl, hb2⟩
   have Hb2 := Lib.hid (below_via Hb1.out hb2)
   clear x0 x1 x2 x3 x4 x5 x6 x7 x8 y0 y1 y2 y3 y4 y5 y6 y7 y8 kxl kyl
   clear hb2 HP Hb1
   cases Z2
   · obtain rfl : false = R := HR3.out
     clear HR3 HA HX HY
     go_wp2
     go_ret
     exact ⟨rfl, below_via Hb0.out Hb2.out⟩
   · have HR4 : Hid ((decide (xg = yg) && Z3) = R) := HR3
     have kx := Bk.after HX.out Hb2.out (by have := HX.out.lt; have := Hb2.out.size; omega)
     have ky := Bk.after HY.out Hb2.out (by have := HY.out.lt; have := Hb2.out.size; omega)
     have x0 : w2.cell? ⟨w.heap.size, 0, none⟩ = some (.string xn) := kx.cell 0
     have x1 : w2.cell? ⟨w.heap.size, 1, none⟩ = some (.string xf) := kx.cell 1
     have x2 : w2.cell? ⟨w.heap.size, 2, none⟩ = some (.string xw) := kx.cell 2
     have x3 : w2.cell? ⟨w.heap.size, 3, none⟩ = some (.int .i64 xo) := kx.cell 3
     have x4 : w2.cell? ⟨w.heap.size, 4, none⟩ = some (.int .i64 xp) := kx.cell 4
     have x5 : w2.cell? ⟨w.heap.size, 5, none⟩ = some (.slice eA en ec) := kx.cell 5
     have x6 : w2.cell? ⟨w.heap.size, 6, none⟩ = some (.slice pA pn pc) := kx.cell 6
     have x7 : w2.cell? ⟨w.heap.size, 7, none⟩ = some (.bool xg) := kx.cell 7
     have x8 : w2.cell? ⟨w.heap.size, 8, none⟩ = some (.slice aA an ac) := kx.cell 8
     have y0 : w2.cell? ⟨w.heap.size + 1, 0, none⟩ = some (.string xn) := ky.cell 0
     have y1 : w2.cell? ⟨w.heap.size + 1, 1, none⟩ = some (.string xf) := ky.cell 1
     have y2 : w2.cell? ⟨w.heap.size + 1, 2, none⟩ = some (.string xw) := ky.cell 2
     have y3 : w2.cell? ⟨w.heap.size + 1, 3, none⟩ = some (.int .i64 yo) := ky.cell 3
     have y4 : w2.cell? ⟨w.heap.size + 1, 4, none⟩ = some (.int .i64 yp) := ky.cell 4
     have y5 : w2.cell? ⟨w.heap.size + 1, 5, none⟩ = some (.slice fA fn fc) := ky.cell 5
     have y6 : w2.cell? ⟨w.heap.size + 1, 6, none⟩ = some (.slice qA qn qc) := ky.cell 6
     have y7 : w2.cell? ⟨w.heap.size + 1, 7, none⟩ = some (.bool yg) := ky.cell 7
     have y8 : w2.cell? ⟨w.heap.size + 1, 8, none⟩ = some (.slice bA bn bc) := ky.cell 8
     have kxl := kx.lt
     have kyl := ky.lt
     clear kx ky
     clear HR3
     by_cases h7 : xg = yg
     case neg =>
      obtain rfl : false = R := by rw [← HR4.out, decide_eq_false h7]; rfl
      clear HR4 HA HX HY
      have hyg : yg = !xg := by cases xg <;> cases yg <;> simp_all
      clear h7
      subst hyg
      cases xg <;> (simp only [Bool.not_true, Bool.not_false] at y7; go_wp2; go_ret; exact ⟨rfl, below_via Hb0.out Hb2.out⟩)
     subst h7
     obtain rfl : Z3 = R := by rw [← HR4.out]; simp
     clear HR4 HX HY
     cases xg
     all_goals
      go_wp2_with fail
      refine (HA.out w2 (below_via Hb0.out Hb2.out)).mono ?_
      rintro e w3 ⟨rfl, hb3⟩
      have Hb3 := Lib.hid (below_via Hb2.out hb3)
      clear x0 x1 x2 x3 x4 x5 x6 x7 x8 y0 y1 y2 y3 y4 y5 y6 y7 y8 kxl kyl
      clear hb3 HA Hb2
      cases Z3
      all_goals
       go_wp2
       go_ret
       exact ⟨rfl, below_via Hb0.out Hb3.out⟩
set_option maxHeartbeats 8000000 in
theorem smD_c (x y : Dm) (w : World) (hx : x.In w) (hy : y.In w) :
 Calls Tryz.prog 57 #[x.w, y.w] w fun e w' => e = .returned (.bool (decide (x.df = y.df))) ∧ Below w.heap.size w w' := by
 obtain ⟨xk, xt, xv⟩ := x
 obtain ⟨yk, yt, yv⟩ := y
 have HT := Lib.hid (fun u (h : Below w.heap.size w u) => smTb_c xt yt u (hx.t.after h) (hy.t.after h))
 have HV := Lib.hid (fun u (h : Below w.heap.size w u) => smVw_c xv yv u (hx.v.after h) (hy.v.after h))
 obtain ⟨R, hR⟩ : ∃ R, decide ((⟨xk, xt, xv⟩ : Dm).df = (⟨yk, yt, yv⟩ : Dm).df) = R := ⟨_, rfl⟩
 rw [hR]
 obtain ⟨Z1, hZ1⟩ : ∃ Z, decide (xt.tb = yt.tb) = Z := ⟨_, rfl⟩
 obtain ⟨Z2, hZ2⟩ : ∃ Z, decide (xv.vw = yv.vw) = Z := ⟨_, rfl⟩
 have hR2 : R = (decide (xk = yk) && (Z1 && Z2)) := by
  rw [← hR, ← hZ1, ← hZ2, Bool.eq_iff_iff]
  simp [Dm.df]
 have HR := Lib.hid hR2
 rw [hZ1] at HT
 rw [hZ2] at HV
 clear hR hR2 hZ1 hZ2 hx hy
 obtain ⟨W, hW⟩ : ∃ W, ((w.alloc (.cells #[.int .i64 xk, .string xt.name, .slice xt.cols.A xt.cols.n xt.cols.c, .slice xt.chks.A xt.chks.n xt.chks.c, .string xv.name, .string xv.frm, .string xv.wth, .int .i64 xv.on0, .int .i64 xv.on1, .slice xv.whr.A xv.whr.n xv.whr.c, .slice xv.pick.A xv.pick.n xv.pick.c, .bool xv.grp, .slice xv.aggs.A xv.aggs.n xv.aggs.c] 34)).alloc (.cells #[.int .i64 yk, .string yt.name, .slice yt.cols.A yt.cols.n yt.cols.c, .slice yt.chks.A yt.chks.n yt.chks.c, .string yv.name, .string yv.frm, .string yv.wth, .int .i64 yv.on0, .int .i64 yv.on1, .slice yv.whr.A yv.whr.n yv.whr.c, .slice yv.pick.A yv.pick.n yv.pick.c, .bool yv.grp, .slice yv.aggs.A yv.aggs.n yv.aggs.c] 34)) = W := ⟨_, rfl⟩
 have HX : Hid (Bk W w.heap.size #[.int .i64 xk, .string xt.name, .slice xt.cols.A xt.cols.n xt.cols.c, .slice xt.chks.A xt.chks.n xt.chks.c, .string xv.name, .string xv.frm, .string xv.wth, .int .i64 xv.on0, .int .i64 xv.on1, .slice xv.whr.A xv.whr.n xv.whr.c, .slice xv.pick.A xv.pick.n xv.pick.c, .bool xv.grp, .slice xv.aggs.A xv.aggs.n xv.aggs.c] 34) := Lib.hid (by rw [← hW]; exact (Bk.new w _ _).after (below_one _ _) (by simp))
 have HY : Hid (Bk W (w.heap.size + 1) #[.int .i64 yk, .string yt.name, .slice yt.cols.A yt.cols.n yt.cols.c, .slice yt.chks.A yt.chks.n yt.chks.c, .string yv.name, .string yv.frm, .string yv.wth, .int .i64 yv.on0, .int .i64 yv.on1, .slice yv.whr.A yv.whr.n yv.whr.c, .slice yv.pick.A yv.pick.n yv.pick.c, .bool yv.grp, .slice yv.aggs.A yv.aggs.n yv.aggs.c] 34) := Lib.hid (by
  rw [← hW]
  have := Bk.new (w.alloc (.cells #[.int .i64 xk, .string xt.name, .slice xt.cols.A xt.cols.n xt.cols.c, .slice xt.chks.A xt.chks.n xt.chks.c, .string xv.name, .string xv.frm, .string xv.wth, .int .i64 xv.on0, .int .i64 xv.on1, .slice xv.whr.A xv.whr.n xv.whr.c, .slice xv.pick.A xv.pick.n xv.pick.c, .bool xv.grp, .slice xv.aggs.A xv.aggs.n xv.aggs.c] 34)) #[.int .i64 yk, .string yt.name, .slice yt.cols.A yt.cols.n yt.cols.c, .slice yt.chks.A yt.chks.n yt.chks.c, .string yv.name, .string yv.frm, .string yv.wth, .int .i64 yv.on0, .int .i64 yv.on1, .slice yv.whr.A yv.whr.n yv.whr.c, .slice yv.pick.A yv.pick.n yv.pick.c, .bool yv.grp, .slice yv.aggs.A yv.aggs.n yv.aggs.c] 34
  simpa using this)
 have Hb0 : Hid (Below w.heap.size w W) := Lib.hid (by rw [← hW]; exact (below_one w _).alloc (by simp) _)
 have HWe := Lib.hid hW
 clear hW
 by_cases h1 : xk = yk
 case neg =>
  have hRf : R = false := by
   rw [HR.out]
   simp [h1]
  subst hRf
  clear HR HT HV HX HY
  go_enter Tryz.func57, Tryz.ntmps57
  go_wp2
  go_ret
  rw [HWe.out]
  exact ⟨rfl, Hb0.out⟩
 subst h1
 have HR2 : Hid ((Z1 && Z2) = R) := Lib.hid (by rw [HR.out]; simp)
 clear HR
 go_enter Tryz.func57, Tryz.ntmps57
 go_wp2_with fail
 rw [HWe.out]
 refine (HT.out W Hb0.out).mono ?_
 rintro e w1 ⟨rfl, hb1⟩
 have Hb1 := Lib.hid hb1
 clear hb1
 cases Z1
 · obtain rfl : false = R := HR2.out
   clear HR2 HT HV HX HY
   go_wp2
   go_ret
   exact ⟨rfl, below_via Hb0.out Hb1.out⟩
 · obtain rfl : Z2 = R := HR2.out
   have kx := Bk.after HX.out Hb1.out (by have := HX.out.lt; have := Hb1.out.size; omega)
   have ky := Bk.after HY.out Hb1.out (by have := HY.out.lt; have := Hb1.out.size; omega)
   have x0 : w1.cell? ⟨w.heap.size, 0, none⟩ = some (.int .i64 xk) := kx.cell 0
   have x1 : w1.cell? ⟨w.heap.size, 1, none⟩ = some (.string xt.name) := kx.cell 1
   have x2 : w1.cell? ⟨w.heap.size, 2, none⟩ = some (.slice xt.cols.A xt.cols.n xt.cols.c) := kx.cell 2
   have x3 : w1.cell? ⟨w.heap.size, 3, none⟩ = some (.slice xt.chks.A xt.chks.n xt.chks.c) := kx.cell 3
   have x4 : w1.cell? ⟨w.heap.size, 4, none⟩ = some (.string xv.name) := kx.cell 4
   have x5 : w1.cell? ⟨w.heap.size, 5, none⟩ = some (.string xv.frm) := kx.cell 5
   have x6 : w1.cell? ⟨w.heap.size, 6, none⟩ = some (.string xv.wth) := kx.cell 6
   have x7 : w1.cell? ⟨w.heap.size, 7, none⟩ = some (.int .i64 xv.on0) := kx.cell 7
   have x8 : w1.cell? ⟨w.heap.size, 8, none⟩ = some (.int .i64 xv.on1) := kx.cell 8
   have x9 : w1.cell? ⟨w.heap.size, 9, none⟩ = some (.slice xv.whr.A xv.whr.n xv.whr.c) := kx.cell 9
   have x10 : w1.cell? ⟨w.heap.size, 10, none⟩ = some (.slice xv.pick.A xv.pick.n xv.pick.c) := kx.cell 10
   have x11 : w1.cell? ⟨w.heap.size, 11, none⟩ = some (.bool xv.grp) := kx.cell 11
   have x12 : w1.cell? ⟨w.heap.size, 12, none⟩ = some (.slice xv.aggs.A xv.aggs.n xv.aggs.c) := kx.cell 12
   have y0 : w1.cell? ⟨w.heap.size + 1, 0, none⟩ = some (.int .i64 xk) := ky.cell 0
   have y1 : w1.cell? ⟨w.heap.size + 1, 1, none⟩ = some (.string yt.name) := ky.cell 1
   have y2 : w1.cell? ⟨w.heap.size + 1, 2, none⟩ = some (.slice yt.cols.A yt.cols.n yt.cols.c) := ky.cell 2
   have y3 : w1.cell? ⟨w.heap.size + 1, 3, none⟩ = some (.slice yt.chks.A yt.chks.n yt.chks.c) := ky.cell 3
   have y4 : w1.cell? ⟨w.heap.size + 1, 4, none⟩ = some (.string yv.name) := ky.cell 4
   have y5 : w1.cell? ⟨w.heap.size + 1, 5, none⟩ = some (.string yv.frm) := ky.cell 5
   have y6 : w1.cell? ⟨w.heap.size + 1, 6, none⟩ = some (.string yv.wth) := ky.cell 6
   have y7 : w1.cell? ⟨w.heap.size + 1, 7, none⟩ = some (.int .i64 yv.on0) := ky.cell 7
   have y8 : w1.cell? ⟨w.heap.size + 1, 8, none⟩ = some (.int .i64 yv.on1) := ky.cell 8
   have y9 : w1.cell? ⟨w.heap.size + 1, 9, none⟩ = some (.slice yv.whr.A yv.whr.n yv.whr.c) := ky.cell 9
   have y10 : w1.cell? ⟨w.heap.size + 1, 10, none⟩ = some (.slice yv.pick.A yv.pick.n yv.pick.c) := ky.cell 10
   have y11 : w1.cell? ⟨w.heap.size + 1, 11, none⟩ = some (.bool yv.grp) := ky.cell 11
   have y12 : w1.cell? ⟨w.heap.size + 1, 12, none⟩ = some (.slice yv.aggs.A yv.aggs.n yv.aggs.c) := ky.cell 12
   have kxl := kx.lt
   have kyl := ky.lt
   clear kx ky
   clear HR2 HT HX HY
   go_wp2_with fail
   refine (HV.out w1 (below_via Hb0.out Hb1.out)).mono ?_
   rintro e w2 ⟨rfl, hb2⟩
   have Hb2 := Lib.hid (below_via Hb1.out hb2)
   clear x0 x1 x2 x3 x4 x5 x6 x7 x8 x9 x10 x11 x12 y0 y1 y2 y3 y4 y5 y6 y7 y8 y9 y10 y11 y12 kxl kyl
   clear hb2 HV
   cases Z2
   all_goals
    go_wp2
    go_ret
    exact ⟨rfl, below_via Hb0.out Hb2.out⟩
end
end Go.Proofs.YtjgpmnffagdhlaaGreatDoor
