/-
  Part 5 of 8 of what the proof leans on: each part below says what it proves, and of what; no condition besides.
-/
import Derived.Test.YtamekagminbejaaGreatDoorQ04
import Derived.Deep.RegionHeld2
import Derived.Deep.RegionHeld3
import Derived.ChangeKeysEq
import Derived.Deep.RegionLaw
import Derived.Deep.AppendLies
import Derived.Deep.DeepCutAuto
set_option linter.unusedVariables false
set_option linter.unusedSimpArgs false
namespace Go.Proofs.YtamekagminbejaaGreatDoor
open Go Go.RowKit
set_option maxRecDepth 100000
def chkW (es : List (List Nd)) : List (List UInt8) := es.flatMap fun e => w_check :: exprW e
def tbW (t : Tb) : Option (List (List UInt8)) := catW (some [t.name.data.toList, s_lp]) (catW (listW clW t.cols) (some (s_rp :: chkW t.checks)))
structure TbOk (t : Tb) : Prop where
 name : t.name.size ≤ 4611686018427387904
 cols : ∀ c ∈ t.cols, c.name.size ≤ 4611686018427387904 ∧ c.ref.size ≤ 4611686018427387904
 chks : ∀ e ∈ t.checks, ∀ x ∈ e, NdOk x
set_option maxHeartbeats 16000000 in
theorem table_w (B b : Nat) (l : List UInt8) (t : Tm) (w : World) (hw : Wr w B b l) (hl : l.length ≤ 20000) (hG : Gw B w) (ht : ∀ u, Below B w u → t.In u) (hok : TbOk t.tb) :
 Calls Tryz.prog 131 #[.pointer (some ⟨b, 0, none⟩), t.w] w (WS B b w ((tbW t.tb).bind (addW l))) := by
 obtain ⟨S, hS⟩ : ∃ S, WS B b w ((tbW t.tb).bind (addW l)) = S := ⟨_, rfl⟩
 rw [hS]
 obtain ⟨nm, ⟨cA, cn, cc, cxs⟩, ⟨kA, kn, kc, kxs⟩⟩ := t
 have hwl := hw.lt
 have hwB := hw.le
 obtain ⟨w0, hw0⟩ : ∃ w0, (w.alloc (.cells #[.pointer (some ⟨b, 0, none⟩)] 189)).alloc (.cells #[.string nm, .slice cA cn cc, .slice kA kn kc] 29) = w0 := ⟨_, rfl⟩
 have hsz0 : w0.heap.size = w.heap.size + 1 + 1 := by rw [← hw0]; simp
 have HW0 : Hid (Wr w0 B b l) := Lib.hid (by rw [← hw0]; exact (hw.alloc _).alloc _)
 have HK0 : Hid (Wk B b w w0) := Lib.hid (by rw [← hw0]; exact ((Wk.refl B b w).alloc hwB _).alloc (by simp; omega) _)
 have HP0 : Hid (Bk w0 w.heap.size #[.pointer (some ⟨b, 0, none⟩)] 189) := Lib.hid (by rw [← hw0]; exact (Bk.new w _ _).alloc _)
 have HB0 : Hid (Bk w0 (w.heap.size + 1) #[.string nm, .slice cA cn cc, .slice kA kn kc] 29) := Lib.hid (by
  rw [← hw0]
  have := Bk.new (w.alloc (.cells #[.pointer (some ⟨b, 0, none⟩)] 189)) #[.string nm, .slice cA cn cc, .slice kA kn kc] 29
  simpa using this)
 have hne1 : w.heap.size ≠ b := by omega
 have hne2 : w.heap.size + 1 ≠ b := by omega
 have hb0 := HW0.out.lt
 have hB0 := HW0.out.le
 have p0 : w0.cell? ⟨w.heap.size, 0, none⟩ = some (.pointer (some ⟨b, 0, none⟩)) := HP0.out.cell 0
 have d0 : w0.cell? ⟨w.heap.size + 1, 0, none⟩ = some (.string nm) := HB0.out.cell 0
 have HE0 := Lib.hid (show WS B b w (Option.bind (catW (some [nm.data.toList, s_lp]) (catW (listW clW cxs) (some (s_rp :: chkW (kxs.map (·.xs)))))) (addW l)) = S from hS)
 have HL0 := Lib.hid hl
 have HG := Lib.hid hG
 have HT := Lib.hid ht
 have HO := Lib.hid hok
 clear hS hw hl hG ht hok
 go_enter Tryz.func131, Tryz.ntmps131
 go_wp2_with fail
 rw [← hsz0]
 refine (add_c B b w0.heap.size l [nm.data.toList, s_lp] 2 _ (HW0.out.alloc _) HL0.out (Ws.new w0 b [nm.data.toList, s_lp] _ (by rw [List.map_cons, List.map_cons, List.map_nil, ba_back]; rfl) hb0 _ rfl) rfl (by omega) (by intro s hs; simp only [List.mem_cons, List.not_mem_nil, or_false] at hs; rcases hs with rfl | rfl; exact HO.out.name; decide)).mono ?_
 rintro e w1 hs
 rcases WS.yes (Wk.refl B b _) hs with ⟨rfl, h1, h2⟩ | ⟨rfl, l1, h1, h2, h3, h4⟩
 · refine ⟨rfl, ?_⟩
   rw [← HE0.out, catW_add, show (some [nm.data.toList, s_lp]).bind (addW l) = none from h1]
   exact ⟨rfl, (HK0.out.alloc hB0 _).trans h2⟩
 · have he := HE0.out
   rw [catW_add, show (some [nm.data.toList, s_lp]).bind (addW l) = some l1 from h1] at he
   have he : WS B b w ((catW (listW clW cxs) (some (s_rp :: chkW (kxs.map (·.xs))))).bind (addW l1)) = S := he
   rw [catW_add] at he
   have HE1 := Lib.hid he
   have HW1 := Lib.hid h2
   have HL1 := Lib.hid h3
   have HK1 := Lib.hid ((HK0.out.alloc hB0 _).trans h4)
   have HP1 := Lib.hid (h4.bk (HP0.out.alloc _) hne1 (by decide))
   have HB1 := Lib.hid (h4.bk (HB0.out.alloc _) hne2 (by decide))
   have hb1 := h2.lt
   have hB1 := h2.le
   have hC1 := HB1.out.lt
   have p1 : w1.cell? ⟨w.heap.size, 0, none⟩ = some (.pointer (some ⟨b, 0, none⟩)) := HP1.out.cell 0
   have d1 : w1.cell? ⟨w.heap.size + 1, 1, none⟩ = some (.slice cA cn cc) := HB1.out.cell 1
   clear h1 h2 h3 h4 hs he hw0 p0 d0 HP0 HB0 HW0 HE0
   have HL := Lib.hid (list_w clW cxs B b 142 (.pointer (some ⟨w.heap.size, 0, none⟩)) (.pointer (some ⟨w.heap.size + 1, 0, none⟩)) l1 cn w1 HW1.out HL1.out (HT.out w (Below.refl B w)).cols.len (HT.out w (Below.refl B w)).cols.max (fun k a u lc ha hk hwr hlc => by
    have hu := HT.out u (HK1.out.trans hk).below
    exact colI_w B b _ _ lc cA cn cc cxs u k a ((hk.bk HP1.out hne1 (by decide)).cell 0) ((hk.bk HB1.out hne2 (by decide)).cell 1) hu.cols.sl hu.cols.len hu.cols.max ha hwr hlc (HO.out.cols a (List.mem_of_getElem? ha))) (fun u k => by kernel_rfl))
   go_wp2_with fail
   refine HL.out.mono ?_
   rintro e w2 hs
   rcases WS.yes HK1.out hs with ⟨rfl, h1, h2⟩ | ⟨rfl, l2, h1, h2, h3, h4⟩
   · refine ⟨rfl, ?_⟩
     rw [← HE1.out, h1]
     exact ⟨rfl, h2⟩
   · have hk12 : Wk B b w1 w2 := by
      rcases WS.yes (Wk.refl B b w1) hs with ⟨h, _⟩ | ⟨_, _, _, _, _, h⟩
      · cases h
      · exact h
     have he := HE1.out
     rw [h1] at he
     have he : WS B b w (addW l2 (s_rp :: chkW (kxs.map (·.xs)))) = S := he
     have HE2 := Lib.hid he
     have HW2 := Lib.hid h2
     have HL2 := Lib.hid h3
     have HK2 := Lib.hid h4
     have HP2 := Lib.hid (hk12.bk HP1.out hne1 (by decide))
     have HB2 := Lib.hid (hk12.bk HB1.out hne2 (by decide))
     have hb2 := h2.lt
     have hB2 := h2.le
     have hC2 := HB2.out.lt
     have p2 : w2.cell? ⟨w.heap.size, 0, none⟩ = some (.pointer (some ⟨b, 0, none⟩)) := HP2.out.cell 0
     clear h1 h2 h3 h4 hs he hk12 HP1 HB1 HE1 HW1 HL1 HL p1 d1
     go_wp2_with fail
     refine (add_c B b w2.heap.size l2 [s_rp] 1 _ (HW2.out.alloc _) HL2.out (Ws.new w2 b [s_rp] _ rfl hb2 _ rfl) rfl (by omega) (by intro s hs; simp only [List.mem_singleton] at hs; subst hs; decide)).mono ?_
     rintro e w3 hs
     have hcat : addW l2 (s_rp :: chkW (kxs.map (·.xs))) = (addW l2 [s_rp]).bind fun q => addW q (chkW (kxs.map (·.xs))) := addW_app [s_rp] _ l2
     rcases WS.yes (Wk.refl B b _) hs with ⟨rfl, h1, h2⟩ | ⟨rfl, l3, h1, h2, h3, h4⟩
     · refine ⟨rfl, ?_⟩
       rw [← HE2.out, hcat, h1]
       exact ⟨rfl, (HK2.out.alloc hB2 _).trans h2⟩
     · have he := HE2.out
       rw [hcat, h1] at he
       have he : WS B b w (addW l3 (chkW (kxs.map (·.xs)))) = S := he
       have HE3 := Lib.hid he
       have HW3 := Lib.hid h2
       have HL3 := Lib.hid h3
       have HK3 := Lib.hid ((HK2.out.alloc hB2 _).trans h4)
       have HP3 := Lib.hid (h4.bk (HP2.out.alloc _) hne1 (by decide))
       have HB3 := Lib.hid (h4.bk (HB2.out.alloc _) hne2 (by decide))
       have hb3 := h2.lt
       have hB3 := h2.le
       have hC3 := HB3.out.lt
       have d3 : w3.cell? ⟨w.heap.size + 1, 2, none⟩ = some (.slice kA kn kc) := HB3.out.cell 2
       have Hkn := Lib.hid (HT.out w (Below.refl B w)).chks.len
       have hkm := (HT.out w (Below.refl B w)).chks.max
       unfold maxLen at hkm
       simp only at hkm Hkn
       clear h1 h2 h3 h4 hs he hcat HP2 HB2 HE2 HW2 HL2 p2 HK2
       go_wp2_with fail
       go_loopw [23] (fun i wr => ∃ (k : Nat) (lc : List UInt8), k ≤ kn ∧ i = .int .i64 k ∧ Hid (Wr wr B b lc) ∧ Hid (lc.length ≤ 20000) ∧ Hid (Wk B b w wr) ∧ Hid (Bk wr w.heap.size #[.pointer (some ⟨b, 0, none⟩)] 189) ∧ Hid (WS B b w (addW lc (chkW ((kxs.map (·.xs)).drop k))) = S)) (fun i _ => kn - (intOf i).toNat)
       case atStart => exact ⟨0, l3, Nat.zero_le _, rfl, HW3, HL3, HK3, HP3, HE3⟩
       case round =>
        obtain ⟨k, lc, hk, rfl, hwr, hlc, hkr, hp, he⟩ := hrel
        have hbr := hwr.out.lt
        have hBr := hwr.out.le
        have p0 : wr.cell? ⟨w.heap.size, 0, none⟩ = some (.pointer (some ⟨b, 0, none⟩)) := hp.out.cell 0
        have hpl := hp.out.lt
        by_cases hlt : k < kn
        · obtain ⟨x, hx⟩ : ∃ x, kxs[k]? = some x := ⟨_, List.getElem?_eq_getElem (by rw [Hkn.out]; exact hlt)⟩
          have hin := HT.out wr hkr.out.below
          obtain ⟨g, off, hA, hg, hcell⟩ : ∃ g off, kA = some ⟨g, off, none⟩ ∧ g < wr.heap.size ∧ ∀ i x, kxs[i]? = some x → ∀ j u, (rdX x)[j]? = some u → wr.cell? ⟨g, off + i * 1 + j, none⟩ = some u := by
           rcases hin.chks.sl with h | h
           · have h : kxs = [] := h
             rw [h] at hx; simp at hx
           · exact h
          subst hA
          have e0 : wr.cell? ⟨g, off + k, none⟩ = some (.slice x.A x.n x.c) := by have := hcell k x hx 0 _ rfl; simpa using this
          have hex := hin.each x (List.mem_of_getElem? hx)
          have Hex := Lib.hid hex
          have Hxm := Lib.hid (List.mem_of_getElem? hx)
          have hdr : (kxs.map (·.xs)).drop k = x.xs :: (kxs.map (·.xs)).drop (k + 1) := by
           have hk2 : k < (kxs.map (·.xs)).length := by rw [List.length_map, Hkn.out]; exact hlt
           rw [List.drop_eq_getElem_cons hk2]
           congr 1
           rw [List.getElem_map]
           rw [List.getElem?_eq_getElem (by rw [Hkn.out]; exact hlt)] at hx
           rw [Option.some.inj hx]
          have he2 := he.out
          rw [hdr] at he2
          have he3 : WS B b w (addW lc ([w_check] ++ (exprW x.xs ++ chkW ((kxs.map (·.xs)).drop (k + 1))))) = S := by
           rw [← he2]; congr 2
          rw [addW_app] at he3
          have He := Lib.hid he3
          clear hcell hin hx hex hdr he he2 he3
          go_wp2_with fail
          refine (add_c B b wr.heap.size lc [w_check] 1 _ (hwr.out.alloc _) hlc.out (Ws.new wr b [w_check] _ rfl hbr _ rfl) rfl (by omega) (by intro s hs; simp only [List.mem_singleton] at hs; subst hs; decide)).mono ?_
          rintro e w5 hs
          rcases WS.yes (Wk.refl B b _) hs with ⟨rfl, h1, h2⟩ | ⟨rfl, l5, h1, h2, h3, h4⟩
          · refine ⟨rfl, ?_⟩
            rw [← He.out, h1]
            exact ⟨rfl, (hkr.out.alloc hBr _).trans h2⟩
          · have he := He.out
            rw [h1, Option.bind_some, addW_app] at he
            have HE5 := Lib.hid he
            have HW5 := Lib.hid h2
            have HL5 := Lib.hid h3
            have HK5 := Lib.hid ((hkr.out.alloc hBr _).trans h4)
            have HP5 := Lib.hid (h4.bk (hp.out.alloc _) hne1 (by decide))
            have p5 : w5.cell? ⟨w.heap.size, 0, none⟩ = some (.pointer (some ⟨b, 0, none⟩)) := HP5.out.cell 0
            have hp5 := HP5.out.lt
            clear h1 h2 h3 h4 hs he He hp hwr hlc hkr p0 e0
            go_wp2_with fail
            refine (expr_w B b l5 x.xs x.A x.n x.c w5 HW5.out HL5.out (HG.out.below HK5.out.below) (HO.out.chks x.xs (List.mem_map.2 ⟨x, Hxm.out, rfl⟩)) Hex.out.len Hex.out.max (fun u hu => ((HT.out u (HK5.out.below.trans hu)).each x Hxm.out).sl)).mono ?_
            rintro e w6 hs
            rcases WS.yes (Wk.refl B b _) hs with ⟨rfl, h1, h2⟩ | ⟨rfl, l6, h1, h2, h3, h4⟩
            · refine ⟨rfl, ?_⟩
              rw [← HE5.out, h1]
              exact ⟨rfl, HK5.out.trans h2⟩
            · have he := HE5.out
              rw [h1, Option.bind_some] at he
              have HE6 := Lib.hid he
              have HW6 := Lib.hid h2
              have HL6 := Lib.hid h3
              have HK6 := Lib.hid (HK5.out.trans h4)
              have HP6 := Lib.hid (h4.bk HP5.out hne1 (by decide))
              clear h1 h2 h3 h4 hs he HE5 HW5 HL5 HP5 p5
              go_wp2_with fail
              go_roundw
              case rel => exact ⟨k + 1, l6, hlt, by simp, HW6, HL6, HK6, HP6, HE6⟩
              case measure => simp [intOf]; omega
        · obtain rfl : k = kn := by omega
          have he2 := he.out
          rw [List.drop_eq_nil_of_le (by rw [List.length_map, Hkn.out]; exact Nat.le_refl _)] at he2
          have He := Lib.hid (show WS B b w (some lc) = S from he2)
          clear he he2
          go_wp2
          go_end0
          rw [← He.out]
          exact ⟨rfl, hwr.out, hlc.out, hkr.out⟩
def numW (x : Int) : Option (List (List UInt8)) := some [Lib.itoa x]
def grpW (grp : Bool) (axs : List Ag) : Option (List (List UInt8)) := if grp then catW (some [w_group]) (listW agW axs) else some []
def picW (pxs : List Int) (grp : Bool) (axs : List Ag) : Option (List (List UInt8)) := catW (some [w_pick]) (catW (listW numW pxs) (grpW grp axs))
def whrW (hxs : List Nd) (pxs : List Int) (grp : Bool) (axs : List Ag) : Option (List (List UInt8)) := if hxs = [] then catW (some []) (picW pxs grp axs) else catW (some [w_where]) (catW (some (exprW hxs)) (picW pxs grp axs))
def wthW (wth : ByteArray) (on0 on1 : Int) (p : Option (List (List UInt8))) : Option (List (List UInt8)) := if wth.size = 0 then catW (some []) p else catW (some [w_join, wth.data.toList, w_on, Lib.itoa on0, s_eq, Lib.itoa on1]) p
def vwW (v : Vw) : Option (List (List UInt8)) := catW (some [v.name.data.toList, w_from, v.frm.data.toList]) (wthW v.wth v.on0 v.on1 (whrW v.whr v.pick v.grp v.aggs))
def I64 (x : Int) : Prop := -9223372036854775808 ≤ x ∧ x ≤ 9223372036854775807
structure VwOk (v : Vw) : Prop where
 name : v.name.size ≤ 4611686018427387904
 frm : v.frm.size ≤ 4611686018427387904
 wth : v.wth.size ≤ 4611686018427387904
 on0 : I64 v.on0
 on1 : I64 v.on1
 whr : ∀ x ∈ v.whr, NdOk x
 pick : ∀ x ∈ v.pick, I64 x
 aggs : ∀ a ∈ v.aggs, I64 a.col
def dfWs : List (List UInt8) := [w_table, w_view]
def dfW (d : Df) : Option (List (List UInt8)) := catW (chW d.k dfWs) (if d.k = 0 then tbW d.t else vwW d.v)
structure DfOk (d : Df) : Prop where
 t : TbOk d.t
 v : VwOk d.v
theorem cells9 {w : World} {b : Nat} {a0 a1 a2 a3 a4 a5 a6 a7 a8 : Value} {T : TypeId} (h : Bk w b #[a0, a1, a2, a3, a4, a5, a6, a7, a8] T) : w.cell? ⟨b, 0, none⟩ = some a0 ∧ w.cell? ⟨b, 1, none⟩ = some a1 ∧ w.cell? ⟨b, 2, none⟩ = some a2 ∧ w.cell? ⟨b, 3, none⟩ = some a3 ∧ w.cell? ⟨b, 4, none⟩ = some a4 ∧ w.cell? ⟨b, 5, none⟩ = some a5 ∧ w.cell? ⟨b, 6, none⟩ = some a6 ∧ w.cell? ⟨b, 7, none⟩ = some a7 ∧ w.cell? ⟨b, 8, none⟩ = some a8 :=
 ⟨h.cell 0, h.cell 1, h.cell 2, h.cell 3, h.cell 4, h.cell 5, h.cell 6, h.cell 7, h.cell 8⟩
set_option maxHeartbeats 32000000 in
theorem view_w (B b : Nat) (l0 : List UInt8) (v : Vm) (w : World) (hw : Wr w B b l0) (hl : l0.length ≤ 20000) (hG : Gw B w) (ht : ∀ u, Below B w u → v.In u) (hok : VwOk v.vw) :
 Calls Tryz.prog 132 #[.pointer (some ⟨b, 0, none⟩), v.w] w (WS B b w ((vwW v.vw).bind (addW l0))) := by
 obtain ⟨S, hS⟩ : ∃ S, WS B b w ((vwW v.vw).bind (addW l0)) = S := ⟨_, rfl⟩
 rw [hS]
 obtain ⟨nm, frm, wth, on0, on1, ⟨hA, hn, hc, hxs⟩, ⟨pA, pn, pc, pxs⟩, grp, ⟨aA, an, ac, axs⟩⟩ := v
 have hwl := hw.lt
 have hwB := hw.le
 obtain ⟨w0, hw0⟩ : ∃ w0, (w.alloc (.cells #[.pointer (some ⟨b, 0, none⟩)] 189)).alloc (.cells #[.string nm, .string frm, .string wth, .int .i64 on0, .int .i64 on1, .slice hA hn hc, .slice pA pn pc, .bool grp, .slice aA an ac] 36) = w0 := ⟨_, rfl⟩
 have hsz0 : w0.heap.size = w.heap.size + 1 + 1 := by rw [← hw0]; simp
 have HW0 : Hid (Wr w0 B b l0) := Lib.hid (by rw [← hw0]; exact (hw.alloc _).alloc _)
 have HK0 : Hid (Wk B b w w0) := Lib.hid (by rw [← hw0]; exact ((Wk.refl B b w).alloc hwB _).alloc (by simp; omega) _)
 have HP0 : Hid (Bk w0 w.heap.size #[.pointer (some ⟨b, 0, none⟩)] 189) := Lib.hid (by rw [← hw0]; exact (Bk.new w _ _).alloc _)
 have HB0 : Hid (Bk w0 (w.heap.size + 1) #[.string nm, .string frm, .string wth, .int .i64 on0, .int .i64 on1, .slice hA hn hc, .slice pA pn pc, .bool grp, .slice aA an ac] 36) := Lib.hid (by
  rw [← hw0]
  have := Bk.new (w.alloc (.cells #[.pointer (some ⟨b, 0, none⟩)] 189)) #[.string nm, .string frm, .string wth, .int .i64 on0, .int .i64 on1, .slice hA hn hc, .slice pA pn pc, .bool grp, .slice aA an ac] 36
  simpa using this)
 have hne1 : w.heap.size ≠ b := by omega
 have hne2 : w.heap.size + 1 ≠ b := by omega
 have hb0 := HW0.out.lt
 have hB0 := HW0.out.le
 have p0 : w0.cell? ⟨w.heap.size, 0, none⟩ = some (.pointer (some ⟨b, 0, none⟩)) := HP0.out.cell 0
 have d0 : w0.cell? ⟨w.heap.size + 1, 0, none⟩ = some (.string nm) := HB0.out.cell 0
 have d1 : w0.cell? ⟨w.heap.size + 1, 1, none⟩ = some (.string frm) := HB0.out.cell 1
 have HE0 := Lib.hid (show WS B b w (Option.bind (catW (some [nm.data.toList, w_from, frm.data.toList]) (wthW wth on0 on1 (whrW hxs pxs grp axs))) (addW l0)) = S from hS)
 have HL0 := Lib.hid hl
 have HG := Lib.hid hG
 have HT := Lib.hid ht
 have HO := Lib.hid hok
 clear hS hw hl hG ht hok
 go_enter Tryz.func132, Tryz.ntmps132
 go_wp2_with fail
 rw [← hsz0]
 refine (add_c B b w0.heap.size l0 [nm.data.toList, w_from, frm.data.toList] 3 _ (HW0.out.alloc _) HL0.out (Ws.new w0 b [nm.data.toList, w_from, frm.data.toList] _ (by rw [List.map_cons, List.map_cons, List.map_cons, List.map_nil, ba_back, ba_back]; rfl) hb0 _ rfl) rfl (by omega) (by intro s hs; simp only [List.mem_cons, List.not_mem_nil, or_false] at hs; rcases hs with rfl | rfl | rfl; exact HO.out.name; decide; exact HO.out.frm)).mono ?_
 rintro e w1 hs
 rcases WS.yes (Wk.refl B b _) hs with ⟨rfl, h1, h2⟩ | ⟨rfl, l1, h1, h2, h3, h4⟩
 · refine ⟨rfl, ?_⟩
   rw [← HE0.out, catW_add, show (some [nm.data.toList, w_from, frm.data.toList]).bind (addW l0) = none from h1]
   exact ⟨rfl, (HK0.out.alloc hB0 _).trans h2⟩
 · have he := HE0.out
   rw [catW_add, show (some [nm.data.toList, w_from, frm.data.toList]).bind (addW l0) = some l1 from h1] at he
   have HE1 := Lib.hid (show WS B b w (Option.bind (wthW wth on0 on1 (whrW hxs pxs grp axs)) (addW l1)) = S from he)
   have HK1 := Lib.hid ((HK0.out.alloc hB0 _).trans h4)
   have HW1 := Lib.hid h2
   have HL1 := Lib.hid h3
   have HP1 := Lib.hid (h4.bk (HP0.out.alloc _) hne1 (by decide))
   have HB1 := Lib.hid (h4.bk (HB0.out.alloc _) hne2 (by decide))
   have hb1 := h2.lt
   have hB1 := h2.le
   have hp1 := HP1.out.lt
   have hv1 := HB1.out.lt
   have p1 : w1.cell? ⟨w.heap.size, 0, none⟩ = some (.pointer (some ⟨b, 0, none⟩)) := HP1.out.cell 0
   obtain ⟨d1_0, d1_1, d1_2, d1_3, d1_4, d1_5, d1_6, d1_7, d1_8⟩ := cells9 HB1.out
   clear h1 h2 h3 h4 hs he
   clear hw0 hsz0 HE0 HW0 HL0 HK0 HP0 HB0 p0 d0 d1
   by_cases hwz : wth.size = 0
   · have he := HE1.out
     unfold wthW at he
     rw [if_pos hwz, catW_add] at he
     clear HE1
     have HE1 := Lib.hid (show WS B b w (Option.bind (whrW hxs pxs grp axs) (addW l1)) = S from he)
     clear he
     have hwe := size_eq hwz
     clear hwz
     by_cases hhz : hxs = []
     · have he := HE1.out
       unfold whrW at he
       rw [if_pos hhz, catW_add] at he
       clear HE1
       have HE1 := Lib.hid (show WS B b w (Option.bind (picW pxs grp axs) (addW l1)) = S from he)
       clear he
       have hlen0 : hn = 0 := by have := (HT.out w (Below.refl B w)).whr.len; simp only at this; rw [← this, hhz]; rfl
       subst hlen0
       clear hhz
       have he := HE1.out
       unfold picW at he
       clear HE1
       have HE1 := Lib.hid (show WS B b w (Option.bind (catW (some [w_pick]) (catW (listW numW pxs) (grpW grp axs))) (addW l1)) = S from he)
       clear he
       go_wp2_with fail
       refine (add_c B b w1.heap.size l1 [w_pick] 1 _ (HW1.out.alloc _) HL1.out (Ws.new w1 b [w_pick] _ (rfl) hb1 _ rfl) rfl (by omega) (by intro s hs; simp only [List.mem_singleton] at hs; subst hs; decide)).mono ?_
       rintro e w11 hs
       rcases WS.yes (Wk.refl B b _) hs with ⟨rfl, h1, h2⟩ | ⟨rfl, l11, h1, h2, h3, h4⟩
       · refine ⟨rfl, ?_⟩
         rw [← HE1.out, catW_add, show (some [w_pick]).bind (addW l1) = none from h1]
         exact ⟨rfl, (HK1.out.alloc hB1 _).trans h2⟩
       · have he := HE1.out
         rw [catW_add, show (some [w_pick]).bind (addW l1) = some l11 from h1] at he
         have HE11 := Lib.hid (show WS B b w (Option.bind (catW (listW numW pxs) (grpW grp axs)) (addW l11)) = S from he)
         have HK11 := Lib.hid ((HK1.out.alloc hB1 _).trans h4)
         have HW11 := Lib.hid h2
         have HL11 := Lib.hid h3
         have HP11 := Lib.hid (h4.bk (HP1.out.alloc _) hne1 (by decide))
         have HB11 := Lib.hid (h4.bk (HB1.out.alloc _) hne2 (by decide))
         have hb11 := h2.lt
         have hB11 := h2.le
         have hp11 := HP11.out.lt
         have hv11 := HB11.out.lt
         have p11 : w11.cell? ⟨w.heap.size, 0, none⟩ = some (.pointer (some ⟨b, 0, none⟩)) := HP11.out.cell 0
         obtain ⟨d11_0, d11_1, d11_2, d11_3, d11_4, d11_5, d11_6, d11_7, d11_8⟩ := cells9 HB11.out
         clear h1 h2 h3 h4 hs he
         have HLs := Lib.hid (list_w numW pxs B b 146 (.pointer (some ⟨w.heap.size, 0, none⟩)) (.pointer (some ⟨w.heap.size + 1, 0, none⟩)) l11 pn w11 HW11.out HL11.out (HT.out w (Below.refl B w)).pick.len (HT.out w (Below.refl B w)).pick.max (fun k a u lc ha hk hwr hlc => by
          have hu := HT.out u (HK11.out.trans hk).below
          exact pickI_w B b _ _ lc pA pn pc pxs u k a ((hk.bk HP11.out hne1 (by decide)).cell 0) ((hk.bk HB11.out hne2 (by decide)).cell 6) hu.pick.sl hu.pick.len hu.pick.max ha hwr hlc (HG.out.below (HK11.out.trans hk).below) (HO.out.pick a (List.mem_of_getElem? ha))) (fun u k => by kernel_rfl))
         go_wp2_with fail
         refine HLs.out.mono ?_
         rintro e w12 hs
         clear HLs
         rcases WS.yes (Wk.refl B b _) hs with ⟨rfl, h1, h2⟩ | ⟨rfl, l12, h1, h2, h3, h4⟩
         · refine ⟨rfl, ?_⟩
           rw [← HE11.out, catW_add, h1]
           exact ⟨rfl, HK11.out.trans h2⟩
         · have he := HE11.out
           rw [catW_add, h1] at he
           have HE12 := Lib.hid (show WS B b w (Option.bind (grpW grp axs) (addW l12)) = S from he)
           have HK12 := Lib.hid (HK11.out.trans h4)
           have HW12 := Lib.hid h2
           have HL12 := Lib.hid h3
           have HP12 := Lib.hid (h4.bk (HP11.out) hne1 (by decide))
           have HB12 := Lib.hid (h4.bk (HB11.out) hne2 (by decide))
           have hb12 := h2.lt
           have hB12 := h2.le
           have hp12 := HP12.out.lt
           have hv12 := HB12.out.lt
           have p12 : w12.cell? ⟨w.heap.size, 0, none⟩ = some (.pointer (some ⟨b, 0, none⟩)) := HP12.out.cell 0
           obtain ⟨d12_0, d12_1, d12_2, d12_3, d12_4, d12_5, d12_6, d12_7, d12_8⟩ := cells9 HB12.out
           clear h1 h2 h3 h4 hs he
           cases grp
           · have he := HE12.out
             unfold grpW at he
             clear HE12
             have HE12 := Lib.hid (show WS B b w (some l12) = S from he)
             clear he
             go_wp2
             go_end0
             rw [← HE12.out]
             exact ⟨rfl, HW12.out, HL12.out, HK12.out⟩
           · have he := HE12.out
             unfold grpW at he
             clear HE12
             have HE12 := Lib.hid (show WS B b w (Option.bind (catW (some [w_group]) (listW agW axs)) (addW l12)) = S from he)
             clear he
             go_wp2_with fail
             refine (add_c B b w12.heap.size l12 [w_group] 1 _ (HW12.out.alloc _) HL12.out (Ws.new w12 b [w_group] _ (rfl) hb12 _ rfl) rfl (by omega) (by intro s hs; simp only [List.mem_singleton] at hs; subst hs; decide)).mono ?_
             rintro e w13 hs
             rcases WS.yes (Wk.refl B b _) hs with ⟨rfl, h1, h2⟩ | ⟨rfl, l13, h1, h2, h3, h4⟩
             · refine ⟨rfl, ?_⟩
               rw [← HE12.out, catW_add, show (some [w_group]).bind (addW l12) = none from h1]
               exact ⟨rfl, (HK12.out.alloc hB12 _).trans h2⟩
             · have he := HE12.out
               rw [catW_add, show (some [w_group]).bind (addW l12) = some l13 from h1] at he
               have HE13 := Lib.hid (show WS B b w (Option.bind (listW agW axs) (addW l13)) = S from he)
               have HK13 := Lib.hid ((HK12.out.alloc hB12 _).trans h4)
               have HW13 := Lib.hid h2
               have HL13 := Lib.hid h3
               have HP13 := Lib.hid (h4.bk (HP12.out.alloc _) hne1 (by decide))
               have HB13 := Lib.hid (h4.bk (HB12.out.alloc _) hne2 (by decide))
               have hb13 := h2.lt
               have hB13 := h2.le
               have hp13 := HP13.out.lt
               have hv13 := HB13.out.lt
               have p13 : w13.cell? ⟨w.heap.size, 0, none⟩ = some (.pointer (some ⟨b, 0, none⟩)) := HP13.out.cell 0
               obtain ⟨d13_0, d13_1, d13_2, d13_3, d13_4, d13_5, d13_6, d13_7, d13_8⟩ := cells9 HB13.out
               clear h1 h2 h3 h4 hs he
               have HLs := Lib.hid (list_w agW axs B b 148 (.pointer (some ⟨w.heap.size, 0, none⟩)) (.pointer (some ⟨w.heap.size + 1, 0, none⟩)) l13 an w13 HW13.out HL13.out (HT.out w (Below.refl B w)).aggs.len (HT.out w (Below.refl B w)).aggs.max (fun k a u lc ha hk hwr hlc => by
                have hu := HT.out u (HK13.out.trans hk).below
                exact aggI_w B b _ _ lc aA an ac axs u k a ((hk.bk HP13.out hne1 (by decide)).cell 0) ((hk.bk HB13.out hne2 (by decide)).cell 8) hu.aggs.sl hu.aggs.len hu.aggs.max ha hwr hlc (HG.out.below (HK13.out.trans hk).below) (HO.out.aggs a (List.mem_of_getElem? ha))) (fun u k => by kernel_rfl))
               go_wp2_with fail
               refine HLs.out.mono ?_
               rintro e w14 hs
               clear HLs
               rcases WS.yes (Wk.refl B b _) hs with ⟨rfl, h1, h2⟩ | ⟨rfl, l14, h1, h2, h3, h4⟩
               · refine ⟨rfl, ?_⟩
                 rw [← HE13.out, h1]
                 exact ⟨rfl, HK13.out.trans h2⟩
               · have he := HE13.out
                 rw [h1] at he
                 have HE14 := Lib.hid (show WS B b w (some l14) = S from he)
                 have HK14 := Lib.hid (HK13.out.trans h4)
                 have HW14 := Lib.hid h2
                 have HL14 := Lib.hid h3
                 have HP14 := Lib.hid (h4.bk (HP13.out) hne1 (by decide))
                 have HB14 := Lib.hid (h4.bk (HB13.out) hne2 (by decide))
                 have hb14 := h2.lt
                 have hB14 := h2.le
                 have hp14 := HP14.out.lt
                 have hv14 := HB14.out.lt
                 have p14 : w14.cell? ⟨w.heap.size, 0, none⟩ = some (.pointer (some ⟨b, 0, none⟩)) := HP14.out.cell 0
                 obtain ⟨d14_0, d14_1, d14_2, d14_3, d14_4, d14_5, d14_6, d14_7, d14_8⟩ := cells9 HB14.out
                 clear h1 h2 h3 h4 hs he
                 go_wp2
                 go_end0
                 rw [← HE14.out]
                 exact ⟨rfl, HW14.out, HL14.out, HK14.out⟩
     · have he := HE1.out
       unfold whrW at he
       rw [if_neg hhz] at he
       clear HE1
       have HE1 := Lib.hid (show WS B b w (Option.bind (catW (some [w_where]) (catW (some (exprW hxs)) (picW pxs grp axs))) (addW l1)) = S from he)
       clear he
       have hlen0 : hn > 0 := by have := (HT.out w (Below.refl B w)).whr.len; simp only at this; have h2 : hxs.length ≠ 0 := (by simpa using hhz); omega
       clear hhz
       go_wp2_with fail
       refine (add_c B b w1.heap.size l1 [w_where] 1 _ (HW1.out.alloc _) HL1.out (Ws.new w1 b [w_where] _ (rfl) hb1 _ rfl) rfl (by omega) (by intro s hs; simp only [List.mem_singleton] at hs; subst hs; decide)).mono ?_
       rintro e w15 hs
       rcases WS.yes (Wk.refl B b _) hs with ⟨rfl, h1, h2⟩ | ⟨rfl, l15, h1, h2, h3, h4⟩
       · refine ⟨rfl, ?_⟩
         rw [← HE1.out, catW_add, show (some [w_where]).bind (addW l1) = none from h1]
         exact ⟨rfl, (HK1.out.alloc hB1 _).trans h2⟩
       · have he := HE1.out
         rw [catW_add, show (some [w_where]).bind (addW l1) = some l15 from h1] at he
         have HE15 := Lib.hid (show WS B b w (Option.bind (catW (some (exprW hxs)) (picW pxs grp axs)) (addW l15)) = S from he)
         have HK15 := Lib.hid ((HK1.out.alloc hB1 _).trans h4)
         have HW15 := Lib.hid h2
         have HL15 := Lib.hid h3
         have HP15 := Lib.hid (h4.bk (HP1.out.alloc _) hne1 (by decide))
         have HB15 := Lib.hid (h4.bk (HB1.out.alloc _) hne2 (by decide))
         have hb15 := h2.lt
         have hB15 := h2.le
         have hp15 := HP15.out.lt
         have hv15 := HB15.out.lt
         have p15 : w15.cell? ⟨w.heap.size, 0, none⟩ = some (.pointer (some ⟨b, 0, none⟩)) := HP15.out.cell 0
         obtain ⟨d15_0, d15_1, d15_2, d15_3, d15_4, d15_5, d15_6, d15_7, d15_8⟩ := cells9 HB15.out
         clear h1 h2 h3 h4 hs he
         go_wp2_with fail
         refine (expr_w B b l15 hxs hA hn hc w15 HW15.out HL15.out (HG.out.below HK15.out.below) HO.out.whr (HT.out _ HK15.out.below).whr.len (HT.out _ HK15.out.below).whr.max (fun u hu => (HT.out u (HK15.out.below.trans hu)).whr.sl)).mono ?_
         rintro e w16 hs
         rcases WS.yes (Wk.refl B b _) hs with ⟨rfl, h1, h2⟩ | ⟨rfl, l16, h1, h2, h3, h4⟩
         · refine ⟨rfl, ?_⟩
           rw [← HE15.out, catW_add, show (some (exprW hxs)).bind (addW l15) = none from h1]
           exact ⟨rfl, HK15.out.trans h2⟩
         · have he := HE15.out
           rw [catW_add, show (some (exprW hxs)).bind (addW l15) = some l16 from h1] at he
           have HE16 := Lib.hid (show WS B b w (Option.bind (picW pxs grp axs) (addW l16)) = S from he)
           have HK16 := Lib.hid (HK15.out.trans h4)
           have HW16 := Lib.hid h2
           have HL16 := Lib.hid h3
           have HP16 := Lib.hid (h4.bk (HP15.out) hne1 (by decide))
           have HB16 := Lib.hid (h4.bk (HB15.out) hne2 (by decide))
           have hb16 := h2.lt
           have hB16 := h2.le
           have hp16 := HP16.out.lt
           have hv16 := HB16.out.lt
           have p16 : w16.cell? ⟨w.heap.size, 0, none⟩ = some (.pointer (some ⟨b, 0, none⟩)) := HP16.out.cell 0
           obtain ⟨d16_0, d16_1, d16_2, d16_3, d16_4, d16_5, d16_6, d16_7, d16_8⟩ := cells9 HB16.out
           clear h1 h2 h3 h4 hs he
           have he := HE16.out
           unfold picW at he
           clear HE16
           have HE16 := Lib.hid (show WS B b w (Option.bind (catW (some [w_pick]) (catW (listW numW pxs) (grpW grp axs))) (addW l16)) = S from he)
           clear he
           go_wp2_with fail
           refine (add_c B b w16.heap.size l16 [w_pick] 1 _ (HW16.out.alloc _) HL16.out (Ws.new w16 b [w_pick] _ (rfl) hb16 _ rfl) rfl (by omega) (by intro s hs; simp only [List.mem_singleton] at hs; subst hs; decide)).mono ?_
           rintro e w17 hs
           rcases WS.yes (Wk.refl B b _) hs with ⟨rfl, h1, h2⟩ | ⟨rfl, l17, h1, h2, h3, h4⟩
           · refine ⟨rfl, ?_⟩
             rw [← HE16.out, catW_add, show (some [w_pick]).bind (addW l16) = none from h1]
             exact ⟨rfl, (HK16.out.alloc hB16 _).trans h2⟩
           · have he := HE16.out
             rw [catW_add, show (some [w_pick]).bind (addW l16) = some l17 from h1] at he
             have HE17 := Lib.hid (show WS B b w (Option.bind (catW (listW numW pxs) (grpW grp axs)) (addW l17)) = S from he)
             have HK17 := Lib.hid ((HK16.out.alloc hB16 _).trans h4)
             have HW17 := Lib.hid h2
             have HL17 := Lib.hid h3
             have HP17 := Lib.hid (h4.bk (HP16.out.alloc _) hne1 (by decide))
             have HB17 := Lib.hid (h4.bk (HB16.out.alloc _) hne2 (by decide))
             have hb17 := h2.lt
             have hB17 := h2.le
             have hp17 := HP17.out.lt
             have hv17 := HB17.out.lt
             have p17 : w17.cell? ⟨w.heap.size, 0, none⟩ = some (.pointer (some ⟨b, 0, none⟩)) := HP17.out.cell 0
             obtain ⟨d17_0, d17_1, d17_2, d17_3, d17_4, d17_5, d17_6, d17_7, d17_8⟩ := cells9 HB17.out
             clear h1 h2 h3 h4 hs he
             have HLs := Lib.hid (list_w numW pxs B b 146 (.pointer (some ⟨w.heap.size, 0, none⟩)) (.pointer (some ⟨w.heap.size + 1, 0, none⟩)) l17 pn w17 HW17.out HL17.out (HT.out w (Below.refl B w)).pick.len (HT.out w (Below.refl B w)).pick.max (fun k a u lc ha hk hwr hlc => by
              have hu := HT.out u (HK17.out.trans hk).below
              exact pickI_w B b _ _ lc pA pn pc pxs u k a ((hk.bk HP17.out hne1 (by decide)).cell 0) ((hk.bk HB17.out hne2 (by decide)).cell 6) hu.pick.sl hu.pick.len hu.pick.max ha hwr hlc (HG.out.below (HK17.out.trans hk).below) (HO.out.pick a (List.mem_of_getElem? ha))) (fun u k => by kernel_rfl))
             go_wp2_with fail
             refine HLs.out.mono ?_
             rintro e w18 hs
             clear HLs
             rcases WS.yes (Wk.refl B b _) hs with ⟨rfl, h1, h2⟩ | ⟨rfl, l18, h1, h2, h3, h4⟩
             · refine ⟨rfl, ?_⟩
               rw [← HE17.out, catW_add, h1]
               exact ⟨rfl, HK17.out.trans h2⟩
             · have he := HE17.out
               rw [catW_add, h1] at he
               have HE18 := Lib.hid (show WS B b w (Option.bind (grpW grp axs) (addW l18)) = S from he)
               have HK18 := Lib.hid (HK17.out.trans h4)
               have HW18 := Lib.hid h2
               have HL18 := Lib.hid h3
               have HP18 := Lib.hid (h4.bk (HP17.out) hne1 (by decide))
               have HB18 := Lib.hid (h4.bk (HB17.out) hne2 (by decide))
               have hb18 := h2.lt
               have hB18 := h2.le
               have hp18 := HP18.out.lt
               have hv18 := HB18.out.lt
               have p18 : w18.cell? ⟨w.heap.size, 0, none⟩ = some (.pointer (some ⟨b, 0, none⟩)) := HP18.out.cell 0
               obtain ⟨d18_0, d18_1, d18_2, d18_3, d18_4, d18_5, d18_6, d18_7, d18_8⟩ := cells9 HB18.out
               clear h1 h2 h3 h4 hs he
               cases grp
               · have he := HE18.out
                 unfold grpW at he
                 clear HE18
                 have HE18 := Lib.hid (show WS B b w (some l18) = S from he)
                 clear he
                 go_wp2
                 go_end0
                 rw [← HE18.out]
                 exact ⟨rfl, HW18.out, HL18.out, HK18.out⟩
               · have he := HE18.out
                 unfold grpW at he
                 clear HE18
                 have HE18 := Lib.hid (show WS B b w (Option.bind (catW (some [w_group]) (listW agW axs)) (addW l18)) = S from he)
                 clear he
                 go_wp2_with fail
                 refine (add_c B b w18.heap.size l18 [w_group] 1 _ (HW18.out.alloc _) HL18.out (Ws.new w18 b [w_group] _ (rfl) hb18 _ rfl) rfl (by omega) (by intro s hs; simp only [List.mem_singleton] at hs; subst hs; decide)).mono ?_
                 rintro e w19 hs
                 rcases WS.yes (Wk.refl B b _) hs with ⟨rfl, h1, h2⟩ | ⟨rfl, l19, h1, h2, h3, h4⟩
                 · refine ⟨rfl, ?_⟩
                   rw [← HE18.out, catW_add, show (some [w_group]).bind (addW l18) = none from h1]
                   exact ⟨rfl, (HK18.out.alloc hB18 _).trans h2⟩
                 · have he := HE18.out
                   rw [catW_add, show (some [w_group]).bind (addW l18) = some l19 from h1] at he
                   have HE19 := Lib.hid (show WS B b w (Option.bind (listW agW axs) (addW l19)) = S from he)
                   have HK19 := Lib.hid ((HK18.out.alloc hB18 _).trans h4)
                   have HW19 := Lib.hid h2
                   have HL19 := Lib.hid h3
                   have HP19 := Lib.hid (h4.bk (HP18.out.alloc _) hne1 (by decide))
                   have HB19 := Lib.hid (h4.bk (HB18.out.alloc _) hne2 (by decide))
                   have hb19 := h2.lt
                   have hB19 := h2.le
                   have hp19 := HP19.out.lt
                   have hv19 := HB19.out.lt
                   have p19 : w19.cell? ⟨w.heap.size, 0, none⟩ = some (.pointer (some ⟨b, 0, none⟩)) := HP19.out.cell 0
                   obtain ⟨d19_0, d19_1, d19_2, d19_3, d19_4, d19_5, d19_6, d19_7, d19_8⟩ := cells9 HB19.out
                   clear h1 h2 h3 h4 hs he
                   have HLs := Lib.hid (list_w agW axs B b 148 (.pointer (some ⟨w.heap.size, 0, none⟩)) (.pointer (some ⟨w.heap.size + 1, 0, none⟩)) l19 an w19 HW19.out HL19.out (HT.out w (Below.refl B w)).aggs.len (HT.out w (Below.refl B w)).aggs.max (fun k a u lc ha hk hwr hlc => by
                    have hu := HT.out u (HK19.out.trans hk).below
                    exact aggI_w B b _ _ lc aA an ac axs u k a ((hk.bk HP19.out hne1 (by decide)).cell 0) ((hk.bk HB19.out hne2 (by decide)).cell 8) hu.aggs.sl hu.aggs.len hu.aggs.max ha hwr hlc (HG.out.below (HK19.out.trans hk).below) (HO.out.aggs a (List.mem_of_getElem? ha))) (fun u k => by kernel_rfl))
                   go_wp2_with fail
                   refine HLs.out.mono ?_
                   rintro e w20 hs
                   clear HLs
                   rcases WS.yes (Wk.refl B b _) hs with ⟨rfl, h1, h2⟩ | ⟨rfl, l20, h1, h2, h3, h4⟩
                   · refine ⟨rfl, ?_⟩
                     rw [← HE19.out, h1]
                     exact ⟨rfl, HK19.out.trans h2⟩
                   · have he := HE19.out
                     rw [h1] at he
                     have HE20 := Lib.hid (show WS B b w (some l20) = S from he)
                     have HK20 := Lib.hid (HK19.out.trans h4)
                     have HW20 := Lib.hid h2
                     have HL20 := Lib.hid h3
                     have HP20 := Lib.hid (h4.bk (HP19.out) hne1 (by decide))
                     have HB20 := Lib.hid (h4.bk (HB19.out) hne2 (by decide))
                     have hb20 := h2.lt
                     have hB20 := h2.le
                     have hp20 := HP20.out.lt
                     have hv20 := HB20.out.lt
                     have p20 : w20.cell? ⟨w.heap.size, 0, none⟩ = some (.pointer (some ⟨b, 0, none⟩)) := HP20.out.cell 0
                     obtain ⟨d20_0, d20_1, d20_2, d20_3, d20_4, d20_5, d20_6, d20_7, d20_8⟩ := cells9 HB20.out
                     clear h1 h2 h3 h4 hs he
                     go_wp2
                     go_end0
                     rw [← HE20.out]
                     exact ⟨rfl, HW20.out, HL20.out, HK20.out⟩
   · have he := HE1.out
     unfold wthW at he
     rw [if_neg hwz] at he
     clear HE1
     have HE1 := Lib.hid (show WS B b w (Option.bind (catW (some [w_join, wth.data.toList, w_on, Lib.itoa on0, s_eq, Lib.itoa on1]) (whrW hxs pxs grp axs)) (addW l1)) = S from he)
     clear he
     have hwe := size_ne hwz
     clear hwz
     obtain ⟨u0, hu0⟩ : ∃ u0 : ByteArray, (⟨(Lib.itoa on0).toArray⟩ : ByteArray) = u0 := ⟨_, rfl⟩
     obtain ⟨u1, hu1⟩ : ∃ u1 : ByteArray, (⟨(Lib.itoa on1).toArray⟩ : ByteArray) = u1 := ⟨_, rfl⟩
     have HI0 := Tryz.strconv_Itoa on0 HO.out.on0.1 HO.out.on0.2 w1.drew (HG.out.below (HK1.out.below.drew)).gl.gl.tab
     have HI1 := fun (u : World) (hu : Below B w u) => Tryz.strconv_Itoa on1 HO.out.on1.1 HO.out.on1.2 u (HG.out.below hu).gl.gl.tab
     rw [hu0] at HI0
     simp only [hu1] at HI1
     have HI0 := Lib.hid HI0
     have HI1 := Lib.hid HI1
     have Hu0 := Lib.hid (show ba (Lib.itoa on0) = u0 from hu0)
     have Hu1 := Lib.hid (show ba (Lib.itoa on1) = u1 from hu1)
     have Hl0 := Lib.hid (itoa_len on0 HO.out.on0)
     have Hl1 := Lib.hid (itoa_len on1 HO.out.on1)
     have HSt : Hid (∀ w', Below w1.heap.size w1 w' → (w'.cell? ⟨w.heap.size, 0, none⟩ = some (.pointer (some ⟨b, 0, none⟩)) ∧ w'.cell? ⟨w.heap.size + 1, 2, none⟩ = some (.string wth) ∧ w'.cell? ⟨w.heap.size + 1, 3, none⟩ = some (.int .i64 on0) ∧ w'.cell? ⟨w.heap.size + 1, 4, none⟩ = some (.int .i64 on1))) := Lib.hid fun w' hb => ⟨(hb.cell (p := ⟨w.heap.size, 0, none⟩) hp1).trans p1, (hb.cell (p := ⟨w.heap.size + 1, 2, none⟩) hv1).trans d1_2, (hb.cell (p := ⟨w.heap.size + 1, 3, none⟩) hv1).trans d1_3, (hb.cell (p := ⟨w.heap.size + 1, 4, none⟩) hv1).trans d1_4⟩
     clear hu0 hu1
     go_wp2_with fail
     go_region_held2 (fun w' => (w'.cell? ⟨w.heap.size, 0, none⟩ = some (.pointer (some ⟨b, 0, none⟩)) ∧ w'.cell? ⟨w.heap.size + 1, 2, none⟩ = some (.string wth) ∧ w'.cell? ⟨w.heap.size + 1, 3, none⟩ = some (.int .i64 on0) ∧ w'.cell? ⟨w.heap.size + 1, 4, none⟩ = some (.int .i64 on1)))
      (first
        | exact HSt.out _ HbS.out
        | go_keep)
      (first
        | (go_at_call 145
           with_reducible refine HI0.out.mono ?_
           rintro e w4 ⟨rfl, kk, os, hw4⟩
           have hb4 : Below w1.heap.size w1 w4 := ((Below.refl w1.heap.size w1).drew).trans (show Below w1.drew.heap.size w1.drew w4 by rw [hw4]; exact below_grow w1.drew kk os)
           have HbS := Lib.hid hb4
           have HI1b := Lib.hid (HI1.out w4 (HK1.out.below.trans (hb4.mono hB1)))
           clear hw4 hb4 HI0)
        | (go_at_call 145
           with_reducible refine HI1b.out.mono ?_
           rintro e w5 ⟨rfl, kk, os, hw5⟩
           have hb5 : Below w1.heap.size w1 w5 := HbS.out.trans ((show Below w4.heap.size w4 w5 by rw [hw5]; exact below_grow w4 kk os).mono HbS.out.size)
           clear HbS HI1b
           have HbS := Lib.hid hb5
           have hz5 := hb5.size
           have HW5 := Lib.hid (HW1.out.after hb5)
           have HK5 := Lib.hid (HK1.out.then hb5 (Nat.le_refl _) hB1)
           have HbT := Lib.hid (hb5.alloc hz5 (.cells #[.string ⟨#[106, 111, 105, 110]⟩, .string wth, .string ⟨#[111, 110]⟩, .string u0, .string ⟨#[61]⟩, .string u1] 9))
           clear hw5 hb5)
        | (go_at_call 140
           refine (add_c B b w5.heap.size l1 [w_join, wth.data.toList, w_on, Lib.itoa on0, s_eq, Lib.itoa on1] 6 _ (HW5.out.alloc _) HL1.out (Ws.new w5 b [w_join, wth.data.toList, w_on, Lib.itoa on0, s_eq, Lib.itoa on1] _ (by rw [← Hu0.out, ← Hu1.out, List.map_cons, List.map_cons, ba_back]; rfl) (by omega) _ rfl) rfl (by omega) (by intro s hs; simp only [List.mem_cons, List.not_mem_nil, or_false] at hs; have h0 := Hl0.out; have h1 := Hl1.out; rcases hs with rfl | rfl | rfl | rfl | rfl | rfl; decide; exact HO.out.wth; decide; omega; decide; omega)).mono ?_
           rintro e w2 hs
           rcases WS.yes (Wk.refl B b _) hs with ⟨rfl, h1, h2⟩ | ⟨rfl, l2, h1, h2, h3, h4⟩
           · refine ⟨rfl, ?_⟩
             rw [← HE1.out, catW_add, show (some [w_join, wth.data.toList, w_on, Lib.itoa on0, s_eq, Lib.itoa on1]).bind (addW l1) = none from h1]
             exact ⟨rfl, (HK5.out.alloc (by omega) _).trans h2⟩
           have he := HE1.out
           rw [catW_add, show (some [w_join, wth.data.toList, w_on, Lib.itoa on0, s_eq, Lib.itoa on1]).bind (addW l1) = some l2 from h1] at he
           have HE2 := Lib.hid (show WS B b w (Option.bind (whrW hxs pxs grp axs) (addW l2)) = S from he)
           have HK2 := Lib.hid ((HK5.out.alloc (by omega) _).trans h4)
           have HW2 := Lib.hid h2
           have HL2 := Lib.hid h3
           have HP2 := Lib.hid (h4.bk ((HP1.out.after HbS.out hp1).alloc _) hne1 (by decide))
           have HB2 := Lib.hid (h4.bk ((HB1.out.after HbS.out hv1).alloc _) hne2 (by decide))
           have hb2 := h2.lt
           have hB2 := h2.le
           have hp2 := HP2.out.lt
           have hv2 := HB2.out.lt
           have p2 : w2.cell? ⟨w.heap.size, 0, none⟩ = some (.pointer (some ⟨b, 0, none⟩)) := HP2.out.cell 0
           obtain ⟨d2_0, d2_1, d2_2, d2_3, d2_4, d2_5, d2_6, d2_7, d2_8⟩ := cells9 HB2.out
           clear h1 h2 h3 h4 hs he))
     all_goals
      clear HI0 HI1 HSt
      by_cases hhz : hxs = []
      · have he := HE2.out
        unfold whrW at he
        rw [if_pos hhz, catW_add] at he
        clear HE2
        have HE2 := Lib.hid (show WS B b w (Option.bind (picW pxs grp axs) (addW l2)) = S from he)
        clear he
        have hlen0 : hn = 0 := by have := (HT.out w (Below.refl B w)).whr.len; simp only at this; rw [← this, hhz]; rfl
        subst hlen0
        clear hhz
        have he := HE2.out
        unfold picW at he
        clear HE2
        have HE2 := Lib.hid (show WS B b w (Option.bind (catW (some [w_pick]) (catW (listW numW pxs) (grpW grp axs))) (addW l2)) = S from he)
        clear he
        go_wp2_with fail
        refine (add_c B b w2.heap.size l2 [w_pick] 1 _ (HW2.out.alloc _) HL2.out (Ws.new w2 b [w_pick] _ (rfl) hb2 _ rfl) rfl (by omega) (by intro s hs; simp only [List.mem_singleton] at hs; subst hs; decide)).mono ?_
        rintro e w21 hs
        rcases WS.yes (Wk.refl B b _) hs with ⟨rfl, h1, h2⟩ | ⟨rfl, l21, h1, h2, h3, h4⟩
        · refine ⟨rfl, ?_⟩
          rw [← HE2.out, catW_add, show (some [w_pick]).bind (addW l2) = none from h1]
          exact ⟨rfl, (HK2.out.alloc hB2 _).trans h2⟩
        · have he := HE2.out
          rw [catW_add, show (some [w_pick]).bind (addW l2) = some l21 from h1] at he
          have HE21 := Lib.hid (show WS B b w (Option.bind (catW (listW numW pxs) (grpW grp axs)) (addW l21)) = S from he)
          have HK21 := Lib.hid ((HK2.out.alloc hB2 _).trans h4)
          have HW21 := Lib.hid h2
          have HL21 := Lib.hid h3
          have HP21 := Lib.hid (h4.bk (HP2.out.alloc _) hne1 (by decide))
          have HB21 := Lib.hid (h4.bk (HB2.out.alloc _) hne2 (by decide))
          have hb21 := h2.lt
          have hB21 := h2.le
          have hp21 := HP21.out.lt
          have hv21 := HB21.out.lt
          have p21 : w21.cell? ⟨w.heap.size, 0, none⟩ = some (.pointer (some ⟨b, 0, none⟩)) := HP21.out.cell 0
          obtain ⟨d21_0, d21_1, d21_2, d21_3, d21_4, d21_5, d21_6, d21_7, d21_8⟩ := cells9 HB21.out
          clear h1 h2 h3 h4 hs he
          have HLs := Lib.hid (list_w numW pxs B b 146 (.pointer (some ⟨w.heap.size, 0, none⟩)) (.pointer (some ⟨w.heap.size + 1, 0, none⟩)) l21 pn w21 HW21.out HL21.out (HT.out w (Below.refl B w)).pick.len (HT.out w (Below.refl B w)).pick.max (fun k a u lc ha hk hwr hlc => by
           have hu := HT.out u (HK21.out.trans hk).below
           exact pickI_w B b _ _ lc pA pn pc pxs u k a ((hk.bk HP21.out hne1 (by decide)).cell 0) ((hk.bk HB21.out hne2 (by decide)).cell 6) hu.pick.sl hu.pick.len hu.pick.max ha hwr hlc (HG.out.below (HK21.out.trans hk).below) (HO.out.pick a (List.mem_of_getElem? ha))) (fun u k => by kernel_rfl))
          go_wp2_with fail
          refine HLs.out.mono ?_
          rintro e w22 hs
          clear HLs
          rcases WS.yes (Wk.refl B b _) hs with ⟨rfl, h1, h2⟩ | ⟨rfl, l22, h1, h2, h3, h4⟩
          · refine ⟨rfl, ?_⟩
            rw [← HE21.out, catW_add, h1]
            exact ⟨rfl, HK21.out.trans h2⟩
          · have he := HE21.out
            rw [catW_add, h1] at he
            have HE22 := Lib.hid (show WS B b w (Option.bind (grpW grp axs) (addW l22)) = S from he)
            have HK22 := Lib.hid (HK21.out.trans h4)
            have HW22 := Lib.hid h2
            have HL22 := Lib.hid h3
            have HP22 := Lib.hid (h4.bk (HP21.out) hne1 (by decide))
            have HB22 := Lib.hid (h4.bk (HB21.out) hne2 (by decide))
            have hb22 := h2.lt
            have hB22 := h2.le
            have hp22 := HP22.out.lt
            have hv22 := HB22.out.lt
            have p22 : w22.cell? ⟨w.heap.size, 0, none⟩ = some (.pointer (some ⟨b, 0, none⟩)) := HP22.out.cell 0
            obtain ⟨d22_0, d22_1, d22_2, d22_3, d22_4, d22_5, d22_6, d22_7, d22_8⟩ := cells9 HB22.out
            clear h1 h2 h3 h4 hs he
            cases grp
            · have he := HE22.out
              unfold grpW at he
              clear HE22
              have HE22 := Lib.hid (show WS B b w (some l22) = S from he)
              clear he
              go_wp2
              go_end0
              rw [← HE22.out]
              exact ⟨rfl, HW22.out, HL22.out, HK22.out⟩
            · have he := HE22.out
              unfold grpW at he
              clear HE22
              have HE22 := Lib.hid (show WS B b w (Option.bind (catW (some [w_group]) (listW agW axs)) (addW l22)) = S from he)
              clear he
              go_wp2_with fail
              refine (add_c B b w22.heap.size l22 [w_group] 1 _ (HW22.out.alloc _) HL22.out (Ws.new w22 b [w_group] _ (rfl) hb22 _ rfl) rfl (by omega) (by intro s hs; simp only [List.mem_singleton] at hs; subst hs; decide)).mono ?_
              rintro e w23 hs
              rcases WS.yes (Wk.refl B b _) hs with ⟨rfl, h1, h2⟩ | ⟨rfl, l23, h1, h2, h3, h4⟩
              · refine ⟨rfl, ?_⟩
                rw [← HE22.out, catW_add, show (some [w_group]).bind (addW l22) = none from h1]
                exact ⟨rfl, (HK22.out.alloc hB22 _).trans h2⟩
              · have he := HE22.out
                rw [catW_add, show (some [w_group]).bind (addW l22) = some l23 from h1] at he
                have HE23 := Lib.hid (show WS B b w (Option.bind (listW agW axs) (addW l23)) = S from he)
                have HK23 := Lib.hid ((HK22.out.alloc hB22 _).trans h4)
                have HW23 := Lib.hid h2
                have HL23 := Lib.hid h3
                have HP23 := Lib.hid (h4.bk (HP22.out.alloc _) hne1 (by decide))
                have HB23 := Lib.hid (h4.bk (HB22.out.alloc _) hne2 (by decide))
                have hb23 := h2.lt
                have hB23 := h2.le
                have hp23 := HP23.out.lt
                have hv23 := HB23.out.lt
                have p23 : w23.cell? ⟨w.heap.size, 0, none⟩ = some (.pointer (some ⟨b, 0, none⟩)) := HP23.out.cell 0
                obtain ⟨d23_0, d23_1, d23_2, d23_3, d23_4, d23_5, d23_6, d23_7, d23_8⟩ := cells9 HB23.out
                clear h1 h2 h3 h4 hs he
                have HLs := Lib.hid (list_w agW axs B b 148 (.pointer (some ⟨w.heap.size, 0, none⟩)) (.pointer (some ⟨w.heap.size + 1, 0, none⟩)) l23 an w23 HW23.out HL23.out (HT.out w (Below.refl B w)).aggs.len (HT.out w (Below.refl B w)).aggs.max (fun k a u lc ha hk hwr hlc => by
                 have hu := HT.out u (HK23.out.trans hk).below
                 exact aggI_w B b _ _ lc aA an ac axs u k a ((hk.bk HP23.out hne1 (by decide)).cell 0) ((hk.bk HB23.out hne2 (by decide)).cell 8) hu.aggs.sl hu.aggs.len hu.aggs.max ha hwr hlc (HG.out.below (HK23.out.trans hk).below) (HO.out.aggs a (List.mem_of_getElem? ha))) (fun u k => by kernel_rfl))
                go_wp2_with fail
                refine HLs.out.mono ?_
                rintro e w24 hs
                clear HLs
                rcases WS.yes (Wk.refl B b _) hs with ⟨rfl, h1, h2⟩ | ⟨rfl, l24, h1, h2, h3, h4⟩
                · refine ⟨rfl, ?_⟩
                  rw [← HE23.out, h1]
                  exact ⟨rfl, HK23.out.trans h2⟩
                · have he := HE23.out
                  rw [h1] at he
                  have HE24 := Lib.hid (show WS B b w (some l24) = S from he)
                  have HK24 := Lib.hid (HK23.out.trans h4)
                  have HW24 := Lib.hid h2
                  have HL24 := Lib.hid h3
                  have HP24 := Lib.hid (h4.bk (HP23.out) hne1 (by decide))
                  have HB24 := Lib.hid (h4.bk (HB23.out) hne2 (by decide))
                  have hb24 := h2.lt
                  have hB24 := h2.le
                  have hp24 := HP24.out.lt
                  have hv24 := HB24.out.lt
                  have p24 : w24.cell? ⟨w.heap.size, 0, none⟩ = some (.pointer (some ⟨b, 0, none⟩)) := HP24.out.cell 0
                  obtain ⟨d24_0, d24_1, d24_2, d24_3, d24_4, d24_5, d24_6, d24_7, d24_8⟩ := cells9 HB24.out
                  clear h1 h2 h3 h4 hs he
                  go_wp2
                  go_end0
                  rw [← HE24.out]
                  exact ⟨rfl, HW24.out, HL24.out, HK24.out⟩
      · have he := HE2.out
        unfold whrW at he
        rw [if_neg hhz] at he
        clear HE2
        have HE2 := Lib.hid (show WS B b w (Option.bind (catW (some [w_where]) (catW (some (exprW hxs)) (picW pxs grp axs))) (addW l2)) = S from he)
        clear he
        have hlen0 : hn > 0 := by have := (HT.out w (Below.refl B w)).whr.len; simp only at this; have h2 : hxs.length ≠ 0 := (by simpa using hhz); omega
        clear hhz
        go_wp2_with fail
        refine (add_c B b w2.heap.size l2 [w_where] 1 _ (HW2.out.alloc _) HL2.out (Ws.new w2 b [w_where] _ (rfl) hb2 _ rfl) rfl (by omega) (by intro s hs; simp only [List.mem_singleton] at hs; subst hs; decide)).mono ?_
        rintro e w25 hs
        rcases WS.yes (Wk.refl B b _) hs with ⟨rfl, h1, h2⟩ | ⟨rfl, l25, h1, h2, h3, h4⟩
        · refine ⟨rfl, ?_⟩
          rw [← HE2.out, catW_add, show (some [w_where]).bind (addW l2) = none from h1]
          exact ⟨rfl, (HK2.out.alloc hB2 _).trans h2⟩
        · have he := HE2.out
          rw [catW_add, show (some [w_where]).bind (addW l2) = some l25 from h1] at he
          have HE25 := Lib.hid (show WS B b w (Option.bind (catW (some (exprW hxs)) (picW pxs grp axs)) (addW l25)) = S from he)
          have HK25 := Lib.hid ((HK2.out.alloc hB2 _).trans h4)
          have HW25 := Lib.hid h2
          have HL25 := Lib.hid h3
          have HP25 := Lib.hid (h4.bk (HP2.out.alloc _) hne1 (by decide))
          have HB25 := Lib.hid (h4.bk (HB2.out.alloc _) hne2 (by decide))
          have hb25 := h2.lt
          have hB25 := h2.le
          have hp25 := HP25.out.lt
          have hv25 := HB25.out.lt
          have p25 : w25.cell? ⟨w.heap.size, 0, none⟩ = some (.pointer (some ⟨b, 0, none⟩)) := HP25.out.cell 0
          obtain ⟨d25_0, d25_1, d25_2, d25_3, d25_4, d25_5, d25_6, d25_7, d25_8⟩ := cells9 HB25.out
          clear h1 h2 h3 h4 hs he
          go_wp2_with fail
          refine (expr_w B b l25 hxs hA hn hc w25 HW25.out HL25.out (HG.out.below HK25.out.below) HO.out.whr (HT.out _ HK25.out.below).whr.len (HT.out _ HK25.out.below).whr.max (fun u hu => (HT.out u (HK25.out.below.trans hu)).whr.sl)).mono ?_
          rintro e w26 hs
          rcases WS.yes (Wk.refl B b _) hs with ⟨rfl, h1, h2⟩ | ⟨rfl, l26, h1, h2, h3, h4⟩
          · refine ⟨rfl, ?_⟩
            rw [← HE25.out, catW_add, show (some (exprW hxs)).bind (addW l25) = none from h1]
            exact ⟨rfl, HK25.out.trans h2⟩
          · have he := HE25.out
            rw [catW_add, show (some (exprW hxs)).bind (addW l25) = some l26 from h1] at he
            have HE26 := Lib.hid (show WS B b w (Option.bind (picW pxs grp axs) (addW l26)) = S from he)
            have HK26 := Lib.hid (HK25.out.trans h4)
            have HW26 := Lib.hid h2
            have HL26 := Lib.hid h3
            have HP26 := Lib.hid (h4.bk (HP25.out) hne1 (by decide))
            have HB26 := Lib.hid (h4.bk (HB25.out) hne2 (by decide))
            have hb26 := h2.lt
            have hB26 := h2.le
            have hp26 := HP26.out.lt
            have hv26 := HB26.out.lt
            have p26 : w26.cell? ⟨w.heap.size, 0, none⟩ = some (.pointer (some ⟨b, 0, none⟩)) := HP26.out.cell 0
            obtain ⟨d26_0, d26_1, d26_2, d26_3, d26_4, d26_5, d26_6, d26_7, d26_8⟩ := cells9 HB26.out
            clear h1 h2 h3 h4 hs he
            have he := HE26.out
            unfold picW at he
            clear HE26
            have HE26 := Lib.hid (show WS B b w (Option.bind (catW (some [w_pick]) (catW (listW numW pxs) (grpW grp axs))) (addW l26)) = S from he)
            clear he
            go_wp2_with fail
            refine (add_c B b w26.heap.size l26 [w_pick] 1 _ (HW26.out.alloc _) HL26.out (Ws.new w26 b [w_pick] _ (rfl) hb26 _ rfl) rfl (by omega) (by intro s hs; simp only [List.mem_singleton] at hs; subst hs; decide)).mono ?_
            rintro e w27 hs
            rcases WS.yes (Wk.refl B b _) hs with ⟨rfl, h1, h2⟩ | ⟨rfl, l27, h1, h2, h3, h4⟩
            · refine ⟨rfl, ?_⟩
              rw [← HE26.out, catW_add, show (some [w_pick]).bind (addW l26) = none from h1]
              exact ⟨rfl, (HK26.out.alloc hB26 _).trans h2⟩
            · have he := HE26.out
              rw [catW_add, show (some [w_pick]).bind (addW l26) = some l27 from h1] at he
              have HE27 := Lib.hid (show WS B b w (Option.bind (catW (listW numW pxs) (grpW grp axs)) (addW l27)) = S from he)
              have HK27 := Lib.hid ((HK26.out.alloc hB26 _).trans h4)
              have HW27 := Lib.hid h2
              have HL27 := Lib.hid h3
              have HP27 := Lib.hid (h4.bk (HP26.out.alloc _) hne1 (by decide))
              have HB27 := Lib.hid (h4.bk (HB26.out.alloc _) hne2 (by decide))
              have hb27 := h2.lt
              have hB27 := h2.le
              have hp27 := HP27.out.lt
              have hv27 := HB27.out.lt
              have p27 : w27.cell? ⟨w.heap.size, 0, none⟩ = some (.pointer (some ⟨b, 0, none⟩)) := HP27.out.cell 0
              obtain ⟨d27_0, d27_1, d27_2, d27_3, d27_4, d27_5, d27_6, d27_7, d27_8⟩ := cells9 HB27.out
              clear h1 h2 h3 h4 hs he
              have HLs := Lib.hid (list_w numW pxs B b 146 (.pointer (some ⟨w.heap.size, 0, none⟩)) (.pointer (some ⟨w.heap.size + 1, 0, none⟩)) l27 pn w27 HW27.out HL27.out (HT.out w (Below.refl B w)).pick.len (HT.out w (Below.refl B w)).pick.max (fun k a u lc ha hk hwr hlc => by
               have hu := HT.out u (HK27.out.trans hk).below
               exact pickI_w B b _ _ lc pA pn pc pxs u k a ((hk.bk HP27.out hne1 (by decide)).cell 0) ((hk.bk HB27.out hne2 (by decide)).cell 6) hu.pick.sl hu.pick.len hu.pick.max ha hwr hlc (HG.out.below (HK27.out.trans hk).below) (HO.out.pick a (List.mem_of_getElem? ha))) (fun u k => by kernel_rfl))
              go_wp2_with fail
              refine HLs.out.mono ?_
              rintro e w28 hs
              clear HLs
              rcases WS.yes (Wk.refl B b _) hs with ⟨rfl, h1, h2⟩ | ⟨rfl, l28, h1, h2, h3, h4⟩
              · refine ⟨rfl, ?_⟩
                rw [← HE27.out, catW_add, h1]
                exact ⟨rfl, HK27.out.trans h2⟩
              · have he := HE27.out
                rw [catW_add, h1] at he
                have HE28 := Lib.hid (show WS B b w (Option.bind (grpW grp axs) (addW l28)) = S from he)
                have HK28 := Lib.hid (HK27.out.trans h4)
                have HW28 := Lib.hid h2
                have HL28 := Lib.hid h3
                have HP28 := Lib.hid (h4.bk (HP27.out) hne1 (by decide))
                have HB28 := Lib.hid (h4.bk (HB27.out) hne2 (by decide))
                have hb28 := h2.lt
                have hB28 := h2.le
                have hp28 := HP28.out.lt
                have hv28 := HB28.out.lt
                have p28 : w28.cell? ⟨w.heap.size, 0, none⟩ = some (.pointer (some ⟨b, 0, none⟩)) := HP28.out.cell 0
                obtain ⟨d28_0, d28_1, d28_2, d28_3, d28_4, d28_5, d28_6, d28_7, d28_8⟩ := cells9 HB28.out
                clear h1 h2 h3 h4 hs he
                cases grp
                · have he := HE28.out
                  unfold grpW at he
                  clear HE28
                  have HE28 := Lib.hid (show WS B b w (some l28) = S from he)
                  clear he
                  go_wp2
                  go_end0
                  rw [← HE28.out]
                  exact ⟨rfl, HW28.out, HL28.out, HK28.out⟩
                · have he := HE28.out
                  unfold grpW at he
                  clear HE28
                  have HE28 := Lib.hid (show WS B b w (Option.bind (catW (some [w_group]) (listW agW axs)) (addW l28)) = S from he)
                  clear he
                  go_wp2_with fail
                  refine (add_c B b w28.heap.size l28 [w_group] 1 _ (HW28.out.alloc _) HL28.out (Ws.new w28 b [w_group] _ (rfl) hb28 _ rfl) rfl (by omega) (by intro s hs; simp only [List.mem_singleton] at hs; subst hs; decide)).mono ?_
                  rintro e w29 hs
                  rcases WS.yes (Wk.refl B b _) hs with ⟨rfl, h1, h2⟩ | ⟨rfl, l29, h1, h2, h3, h4⟩
                  · refine ⟨rfl, ?_⟩
                    rw [← HE28.out, catW_add, show (some [w_group]).bind (addW l28) = none from h1]
                    exact ⟨rfl, (HK28.out.alloc hB28 _).trans h2⟩
                  · have he := HE28.out
                    rw [catW_add, show (some [w_group]).bind (addW l28) = some l29 from h1] at he
                    have HE29 := Lib.hid (show WS B b w (Option.bind (listW agW axs) (addW l29)) = S from he)
                    have HK29 := Lib.hid ((HK28.out.alloc hB28 _).trans h4)
                    have HW29 := Lib.hid h2
                    have HL29 := Lib.hid h3
                    have HP29 := Lib.hid (h4.bk (HP28.out.alloc _) hne1 (by decide))
                    have HB29 := Lib.hid (h4.bk (HB28.out.alloc _) hne2 (by decide))
                    have hb29 := h2.lt
                    have hB29 := h2.le
                    have hp29 := HP29.out.lt
                    have hv29 := HB29.out.lt
                    have p29 : w29.cell? ⟨w.heap.size, 0, none⟩ = some (.pointer (some ⟨b, 0, none⟩)) := HP29.out.cell 0
                    obtain ⟨d29_0, d29_1, d29_2, d29_3, d29_4, d29_5, d29_6, d29_7, d29_8⟩ := cells9 HB29.out
                    clear h1 h2 h3 h4 hs he
                    have HLs := Lib.hid (list_w agW axs B b 148 (.pointer (some ⟨w.heap.size, 0, none⟩)) (.pointer (some ⟨w.heap.size + 1, 0, none⟩)) l29 an w29 HW29.out HL29.out (HT.out w (Below.refl B w)).aggs.len (HT.out w (Below.refl B w)).aggs.max (fun k a u lc ha hk hwr hlc => by
                     have hu := HT.out u (HK29.out.trans hk).below
                     exact aggI_w B b _ _ lc aA an ac axs u k a ((hk.bk HP29.out hne1 (by decide)).cell 0) ((hk.bk HB29.out hne2 (by decide)).cell 8) hu.aggs.sl hu.aggs.len hu.aggs.max ha hwr hlc (HG.out.below (HK29.out.trans hk).below) (HO.out.aggs a (List.mem_of_getElem? ha))) (fun u k => by kernel_rfl))
                    go_wp2_with fail
                    refine HLs.out.mono ?_
                    rintro e w30 hs
                    clear HLs
                    rcases WS.yes (Wk.refl B b _) hs with ⟨rfl, h1, h2⟩ | ⟨rfl, l30, h1, h2, h3, h4⟩
                    · refine ⟨rfl, ?_⟩
                      rw [← HE29.out, h1]
                      exact ⟨rfl, HK29.out.trans h2⟩
                    · have he := HE29.out
                      rw [h1] at he
                      have HE30 := Lib.hid (show WS B b w (some l30) = S from he)
                      have HK30 := Lib.hid (HK29.out.trans h4)
                      have HW30 := Lib.hid h2
                      have HL30 := Lib.hid h3
                      have HP30 := Lib.hid (h4.bk (HP29.out) hne1 (by decide))
                      have HB30 := Lib.hid (h4.bk (HB29.out) hne2 (by decide))
                      have hb30 := h2.lt
                      have hB30 := h2.le
                      have hp30 := HP30.out.lt
                      have hv30 := HB30.out.lt
                      have p30 : w30.cell? ⟨w.heap.size, 0, none⟩ = some (.pointer (some ⟨b, 0, none⟩)) := HP30.out.cell 0
                      obtain ⟨d30_0, d30_1, d30_2, d30_3, d30_4, d30_5, d30_6, d30_7, d30_8⟩ := cells9 HB30.out
                      clear h1 h2 h3 h4 hs he
                      go_wp2
                      go_end0
                      rw [← HE30.out]
                      exact ⟨rfl, HW30.out, HL30.out, HK30.out⟩
set_option maxHeartbeats 8000000 in
theorem def_w (B b : Nat) (l : List UInt8) (d : Dm) (w : World) (hw : Wr w B b l) (hl : l.length ≤ 20000) (hG : Gw B w) (ht : ∀ u, Below B w u → d.In u) (hok : DfOk d.df) :
 Calls Tryz.prog 112 #[.pointer (some ⟨b, 0, none⟩), d.w] w (WS B b w ((dfW d.df).bind (addW l))) := by
 obtain ⟨S, hS⟩ : ∃ S, WS B b w ((dfW d.df).bind (addW l)) = S := ⟨_, rfl⟩
 rw [hS]
 obtain ⟨k, t, v⟩ := d
 have hwl := hw.lt
 have hwB := hw.le
 obtain ⟨w0, hw0⟩ : ∃ w0, w.alloc (.cells #[.int .i64 k, .string t.name, .slice t.cols.A t.cols.n t.cols.c, .slice t.chks.A t.chks.n t.chks.c, .string v.name, .string v.frm, .string v.wth, .int .i64 v.on0, .int .i64 v.on1, .slice v.whr.A v.whr.n v.whr.c, .slice v.pick.A v.pick.n v.pick.c, .bool v.grp, .slice v.aggs.A v.aggs.n v.aggs.c] 38) = w0 := ⟨_, rfl⟩
 have hsz0 : w0.heap.size = w.heap.size + 1 := by rw [← hw0]; simp
 have HW0 : Hid (Wr w0 B b l) := Lib.hid (by rw [← hw0]; exact hw.alloc _)
 have HK0 : Hid (Wk B b w w0) := Lib.hid (by rw [← hw0]; exact (Wk.refl B b w).alloc hwB _)
 have HB0 : Hid (Bk w0 w.heap.size #[.int .i64 k, .string t.name, .slice t.cols.A t.cols.n t.cols.c, .slice t.chks.A t.chks.n t.chks.c, .string v.name, .string v.frm, .string v.wth, .int .i64 v.on0, .int .i64 v.on1, .slice v.whr.A v.whr.n v.whr.c, .slice v.pick.A v.pick.n v.pick.c, .bool v.grp, .slice v.aggs.A v.aggs.n v.aggs.c] 38) := Lib.hid (by rw [← hw0]; exact Bk.new w _ _)
 have hne1 : w.heap.size ≠ b := by omega
 have hb0 := HW0.out.lt
 have hB0 := HW0.out.le
 have d0 : w0.cell? ⟨w.heap.size, 0, none⟩ = some (.int .i64 k) := HB0.out.cell 0
 have HE0 : Hid (WS B b w (((chW k dfWs).bind (addW l)).bind fun q => (if k = 0 then tbW t.tb else vwW v.vw).bind (addW q)) = S) := Lib.hid (by rw [← hS, ← catW_add]; rfl)
 have HL0 := Lib.hid hl
 have HG := Lib.hid hG
 have HT := Lib.hid ht
 have HO := Lib.hid hok
 clear hS hw hl hG ht hok
 go_enter Tryz.func112, Tryz.ntmps112
 go_wp2_with fail
 rw [← hsz0]
 refine (choice_w B b w0.heap.size l k dfWs 2 _ (HW0.out.alloc _) HL0.out (Ws.new w0 b dfWs _ rfl hb0 _ rfl) rfl (by omega) (by intro s hs; simp [dfWs] at hs; rcases hs with rfl | rfl <;> decide)).mono ?_
 rintro e w1 hs
 rcases WS.yes (Wk.refl B b _) hs with ⟨rfl, h1, h2⟩ | ⟨rfl, l1, h1, h2, h3, h4⟩
 · refine ⟨rfl, ?_⟩
   rw [← HE0.out, h1]
   exact ⟨rfl, (HK0.out.alloc hB0 _).trans h2⟩
 · have he := HE0.out
   rw [h1, Option.bind_some] at he
   have HW1 := Lib.hid h2
   have HL1 := Lib.hid h3
   have HK1 := Lib.hid ((HK0.out.alloc hB0 _).trans h4)
   have HB1 := Lib.hid (h4.bk (HB0.out.alloc _) hne1 (by decide))
   have hb1 := h2.lt
   have hB1 := h2.le
   have hC1 := HB1.out.lt
   have d1_0 : w1.cell? ⟨w.heap.size, 0, none⟩ = some (.int .i64 k) := HB1.out.cell 0
   have d1_1 : w1.cell? ⟨w.heap.size, 1, none⟩ = some (.string t.name) := HB1.out.cell 1
   have d1_2 : w1.cell? ⟨w.heap.size, 2, none⟩ = some (.slice t.cols.A t.cols.n t.cols.c) := HB1.out.cell 2
   have d1_3 : w1.cell? ⟨w.heap.size, 3, none⟩ = some (.slice t.chks.A t.chks.n t.chks.c) := HB1.out.cell 3
   have d1_4 : w1.cell? ⟨w.heap.size, 4, none⟩ = some (.string v.name) := HB1.out.cell 4
   have d1_5 : w1.cell? ⟨w.heap.size, 5, none⟩ = some (.string v.frm) := HB1.out.cell 5
   have d1_6 : w1.cell? ⟨w.heap.size, 6, none⟩ = some (.string v.wth) := HB1.out.cell 6
   have d1_7 : w1.cell? ⟨w.heap.size, 7, none⟩ = some (.int .i64 v.on0) := HB1.out.cell 7
   have d1_8 : w1.cell? ⟨w.heap.size, 8, none⟩ = some (.int .i64 v.on1) := HB1.out.cell 8
   have d1_9 : w1.cell? ⟨w.heap.size, 9, none⟩ = some (.slice v.whr.A v.whr.n v.whr.c) := HB1.out.cell 9
   have d1_10 : w1.cell? ⟨w.heap.size, 10, none⟩ = some (.slice v.pick.A v.pick.n v.pick.c) := HB1.out.cell 10
   have d1_11 : w1.cell? ⟨w.heap.size, 11, none⟩ = some (.bool v.grp) := HB1.out.cell 11
   have d1_12 : w1.cell? ⟨w.heap.size, 12, none⟩ = some (.slice v.aggs.A v.aggs.n v.aggs.c) := HB1.out.cell 12
   clear h1 h2 h3 h4 hs d0 HB0 HW0 HE0 hw0
   by_cases hk : k = 0
   · subst hk
     rw [if_pos rfl] at he
     have HE1 := Lib.hid he
     clear he
     go_wp2_with fail
     refine (table_w B b l1 t w1 HW1.out HL1.out (HG.out.below HK1.out.below) (fun u hu => (HT.out u (HK1.out.below.trans hu)).t) HO.out.t).mono ?_
     rintro e w2 hs
     rcases WS.yes HK1.out hs with ⟨rfl, h1, h2⟩ | ⟨rfl, l2, h1, h2, h3, h4⟩
     · refine ⟨rfl, ?_⟩
       rw [← HE1.out, h1]
       exact ⟨rfl, h2⟩
     · have HX := Lib.hid (And.intro h1 (And.intro h2 (And.intro h3 h4)))
       clear h1 h2 h3 h4 hs d1_0 d1_1 d1_2 d1_3 d1_4 d1_5 d1_6 d1_7 d1_8 d1_9 d1_10 d1_11 d1_12
       go_wp2
       go_end0
       rw [← HE1.out, HX.out.1]
       exact ⟨rfl, HX.out.2⟩
   · rw [if_neg hk] at he
     have HE1 := Lib.hid he
     clear he
     go_wp2_with fail
     refine (view_w B b l1 v w1 HW1.out HL1.out (HG.out.below HK1.out.below) (fun u hu => (HT.out u (HK1.out.below.trans hu)).v) HO.out.v).mono ?_
     rintro e w2 hs
     rcases WS.yes HK1.out hs with ⟨rfl, h1, h2⟩ | ⟨rfl, l2, h1, h2, h3, h4⟩
     · refine ⟨rfl, ?_⟩
       rw [← HE1.out, h1]
       exact ⟨rfl, h2⟩
     · have HX := Lib.hid (And.intro h1 (And.intro h2 (And.intro h3 h4)))
       clear h1 h2 h3 h4 hs d1_0 d1_1 d1_2 d1_3 d1_4 d1_5 d1_6 d1_7 d1_8 d1_9 d1_10 d1_11 d1_12
       go_wp2
       go_end0
       rw [← HE1.out, HX.out.1]
       exact ⟨rfl, HX.out.2⟩
theorem byteC1 : Tryz.prog.cellsOf 5 = 1 := by kernel_rfl
set_option maxHeartbeats 4000000 in
theorem wtext_c (B b : Nat) (l : List UInt8) (w : World) (h : Wr w B b l) (h0 : l ≠ []) (hl : l.length ≤ 20000) :
 Calls Tryz.prog 113 #[.pointer (some ⟨b, 0, none⟩)] w fun e w' => e = .returned (.string (ba l)) ∧ Below B w w' := by
 obtain ⟨p, hB, v, hk, hv, hne⟩ : ∃ p, WrP p w B b l := h.elim (fun h => ⟨_, h⟩) (fun h => ⟨_, h⟩)
 have hl0 : l.length ≠ 0 := by simpa using h0
 obtain ⟨g, cap, cur, rfl, hBg, hg, hnc, hcm, hcs, htk⟩ : ∃ g cap cur, v = .slice (some ⟨g, 0, none⟩) l.length cap ∧ B ≤ g ∧ w.heap[g]? = some (.cells cur 5 (0, 0)) ∧ l.length ≤ cap ∧ cap ≤ maxLen ∧ cur.size = cap * 1 ∧ cur.toList.take (l.length * 1) = bcells l := by
  rcases hv.2 with ⟨_, hz⟩ | ⟨g, cap, cur, hv, r⟩
  · exact absurd hz hl0
  · exact ⟨g, cap, cur, hv, r⟩
 have c1 : w.drew.cell? ⟨b, 1, none⟩ = some (.slice (some ⟨g, 0, none⟩) l.length cap) := hk.cell 1
 have hSD : (Builtin.unsafeSliceData_ #[164] 193 #[.slice (some ⟨g, 0, none⟩) l.length cap]).run Tryz.prog w.drew = .ok (.pointer (some ⟨g, 0, none⟩)) w.drew :=
  Lib.run_unsafeSliceData_row _ _ _ _ _ _ (by omega)
 have hUS : (Builtin.unsafeString_ #[193, 3] 9 #[.pointer (some ⟨g, 0, none⟩), .int .i64 l.length]).run Tryz.prog w.drew = .ok (.string ⟨l.toArray⟩) (w.drew.freeze ⟨g, 0, none⟩ l.length) := by
  refine Lib.run_unsafeString_row w.drew 193 3 9 5 Tryz.underlying193 byteC1 g cur.size (by have hg' : w.drew.heap[g]? = some (.cells cur 5 (0, 0)) := hg; simp [World.shape?, hg']) l h0 (by omega) (by omega) ?_
  intro j x hx
  exact World.ownsRow.cells (g := g) hv rfl j _ (by simp [bcells, hx])
 obtain ⟨t, ht⟩ : ∃ t : ByteArray, (⟨l.toArray⟩ : ByteArray) = t := ⟨_, rfl⟩
 rw [ht] at hUS
 have Ht : Hid (ba l = t) := Lib.hid ht
 show Calls _ _ _ _ fun e w' => e = .returned (.string (ba l)) ∧ Below B w w'
 rw [Ht.out]
 clear ht hv hk htk hne h h0
 have hmx : Tryz.prog.follows .mixedOrders = true := by kernel_rfl
 go_enter Tryz.func113, Tryz.ntmps113
 go_wp2
 go_region_o
 all_goals (go_wp2; go_ret; exact ⟨rfl, Lib.below_freeze (Below.drew (Below.refl B w)) (p := ⟨g, 0, none⟩) hBg _⟩)
theorem txt_tW (l : List UInt8) : txtT (tW l) = l := rfl
theorem txt_tS (l : List UInt8) : txtT (tS l) = l := rfl
theorem txt_tN (b : ByteArray) : txtT (tN b) = b.data.toList := rfl
theorem txt_int (n : Int) : txtT (intT n) = Lib.itoa n := rfl
theorem txt_nl : textL nl = w_null := by decide
theorem txt_tt : textL tt = w_true := by decide
theorem txt_ff : textL ff = w_false := by decide
theorem step_words {x : Nd} (h : mayNd x = true) : stepW x = (ndT x).map txtT := by
 obtain ⟨op, n, v⟩ := x
 unfold mayNd at h
 simp only at h
 by_cases h0 : op = 0
 · subst h0
   simp only [if_true, Bool.and_eq_true] at h
   have hn := h.1
   unfold colB at hn
   simp only [Bool.and_eq_true, decide_eq_true_eq] at hn
   have e : stepW ⟨0, n, v⟩ = [99 :: Lib.itoa n] := rfl
   have e2 : (ndT ⟨0, n, v⟩).map txtT = [99 :: Lib.itoa (n.toNat : Int)] := rfl
   rw [e, e2, Int.toNat_of_nonneg hn.1]
 · rw [if_neg h0] at h
   by_cases h1 : op = 1
   · subst h1
     have e : stepW ⟨1, n, v⟩ = [textL v] := rfl
     rw [e]
     have e2 : ndT ⟨1, n, v⟩ = if v.eq nl then [tW w_null] else if v.eq tt then [tW w_true] else if v.eq ff then [tW w_false] else [⟨1, emp, v⟩] := rfl
     rw [e2]
     by_cases e1 : v.eq nl = true
     · rw [if_pos e1, Val.eq_iff.1 e1, txt_nl]; rfl
     · rw [if_neg e1]
       by_cases e2 : v.eq tt = true
       · rw [if_pos e2, Val.eq_iff.1 e2, txt_tt]; rfl
       · rw [if_neg e2]
         by_cases e3 : v.eq ff = true
         · rw [if_pos e3, Val.eq_iff.1 e3, txt_ff]; rfl
         · rw [if_neg e3]; rfl
   · rw [if_neg h1] at h
     simp only [Bool.and_eq_true, decide_eq_true_eq] at h
     obtain ⟨g1, g2, -⟩ := h
     have hc : op = 2 ∨ op = 3 ∨ op = 4 ∨ op = 5 ∨ op = 6 ∨ op = 7 ∨ op = 8 ∨ op = 9 ∨ op = 10 := by omega
     rcases hc with rfl | rfl | rfl | rfl | rfl | rfl | rfl | rfl | rfl <;> rfl
theorem steps_words : ∀ {e : List Nd}, (∀ x ∈ e, mayNd x = true) → e.flatMap stepW = (e.flatMap ndT).map txtT
 | [], _ => rfl
 | x :: e, h => by
   rw [List.flatMap_cons, List.flatMap_cons, List.map_append, step_words (h x (by simp)), steps_words fun y hy => h y (List.mem_cons_of_mem _ hy)]
theorem expr_words {e : List Nd} (h : mayE e = true) : exprW e = (exprT e).map txtT := by
 unfold mayE at h
 simp only [Bool.and_eq_true, List.all_eq_true] at h
 unfold exprW exprT
 rw [List.map_cons, List.map_append, steps_words h.2]
 rfl
theorem catW_some (a b : List (List UInt8)) : catW (some a) (some b) = some (a ++ b) := rfl
theorem tail_words {α : Type} (f : α → Option (List (List UInt8))) (g : α → List Tk) : ∀ xs : List α, (∀ a ∈ xs, f a = some ((g a).map txtT)) → xs ≠ [] → tailW f xs = some ((tS s_cm :: sepT g xs).map txtT)
 | [], _, h => absurd rfl h
 | [a], h, _ => by
   show catW (some [s_cm]) (catW (f a) (some [])) = _
   rw [h a (by simp)]
   simp [catW, sepT, txt_tS]
 | a :: b :: r, h, _ => by
   have ih := tail_words f g (b :: r) (fun x hx => h x (List.mem_cons_of_mem _ hx)) (by simp)
   show catW (some [s_cm]) (catW (f a) (tailW f (b :: r))) = _
   rw [ih, h a (by simp), catW_some, catW_some]
   congr 1
   rw [show sepT g (a :: b :: r) = g a ++ (tS s_cm :: sepT g (b :: r)) from rfl]
   simp [txt_tS]
theorem list_words {α : Type} (f : α → Option (List (List UInt8))) (g : α → List Tk) (xs : List α) (h : ∀ a ∈ xs, f a = some ((g a).map txtT)) : listW f xs = some ((sepT g xs).map txtT) := by
 cases xs with
 | nil => rfl
 | cons a r =>
   cases r with
   | nil =>
     show catW (f a) (some []) = _
     rw [h a (by simp), catW_some]
     simp [sepT]
   | cons b r =>
     have ih := tail_words f g (b :: r) (fun x hx => h x (List.mem_cons_of_mem _ hx)) (by simp)
     show catW (f a) (tailW f (b :: r)) = _
     rw [ih, h a (by simp), catW_some]
     congr 1
     rw [show sepT g (a :: b :: r) = g a ++ (tS s_cm :: sepT g (b :: r)) from rfl]
     simp
theorem size_if {α : Type} (b : ByteArray) (x y : α) : (if b.size = 0 then x else y) = (if b.toList.isEmpty then x else y) := by
 by_cases h : b.size = 0
 · rw [if_pos h, size_eq h, if_pos rfl]
 · rw [if_neg h, size_ne h, if_neg (by simp)]
theorem kind_words {k : Int} (h1 : 1 ≤ k) (h3 : k ≤ 3) : chW (IntKind.i64.wrap (k - 1)) kdWs = some [kindW k] := by
 have : k = 1 ∨ k = 2 ∨ k = 3 := by omega
 rcases this with rfl | rfl | rfl <;> rfl
theorem act_words {k : Int} (h1 : 0 ≤ k) (h3 : k ≤ 2) : chW k acWs = some [actW k] := by
 have : k = 0 ∨ k = 1 ∨ k = 2 := by omega
 rcases this with rfl | rfl | rfl <;> rfl
theorem fn_words {k : Int} (h1 : 0 ≤ k) (h3 : k ≤ 3) : chW k fnWs = some [fnW k] := by
 have : k = 0 ∨ k = 1 ∨ k = 2 ∨ k = 3 := by omega
 rcases this with rfl | rfl | rfl | rfl <;> rfl
theorem col_words {c : Cl} (h : mayCl c = true) : clW c = some ((clT c).map txtT) := by
 obtain ⟨nm, k, nu, un, rf, ac⟩ := c
 unfold mayCl at h
 simp only [Bool.and_eq_true, decide_eq_true_eq] at h
 obtain ⟨h1, h2, h3, h4⟩ := h
 unfold clW nulW uniW refW clT
 simp only
 rw [kind_words h2 h3, size_if]
 cases hr : rf.toList.isEmpty
 · rw [hr] at h4
   simp only [Bool.false_eq_true, if_false, Bool.and_eq_true, decide_eq_true_eq] at h4
   rw [act_words h4.2.1 h4.2.2]
   cases nu <;> cases un <;> simp [catW, txt_tW, txt_tN]
 · cases nu <;> cases un <;> simp [catW, txt_tW, txt_tN]
theorem checks_words : ∀ {es : List (List Nd)}, (∀ e ∈ es, mayE e = true) → chkW es = (es.flatMap fun e => tW w_check :: exprT e).map txtT
 | [], _ => rfl
 | e :: es, h => by
   have ih := checks_words (es := es) fun y hy => h y (List.mem_cons_of_mem _ hy)
   unfold chkW at *
   rw [List.flatMap_cons, List.flatMap_cons, List.map_append, ih, expr_words (h e (by simp))]
   rfl
theorem table_words {t : Tb} (h : mayTb t = true) : tbW t = some ((tbT t).map txtT) := by
 unfold mayTb at h
 simp only [Bool.and_eq_true, List.all_eq_true] at h
 obtain ⟨a1, a2, a3, a4, a5, a6⟩ := h
 unfold tbW tbT
 rw [list_words clW clT t.cols (fun c hc => col_words (a5 c hc)), checks_words a6, catW_some, catW_some]
 simp [txt_tN, txt_tS]
theorem agg_words {a : Ag} (h : mayAg a = true) : agW a = some ((agT a).map txtT) := by
 unfold mayAg at h
 unfold agW agT
 by_cases h0 : a.fn = 0
 · rw [if_pos h0, if_pos h0, h0, fn_words (by decide) (by decide)]; rfl
 · rw [if_neg h0] at h
   simp only [Bool.and_eq_true, decide_eq_true_eq] at h
   rw [if_neg h0, if_neg h0, fn_words h.1 h.2.1]; rfl
theorem view_words {v : Vw} (h : mayVw v = true) : vwW v = some ((vwT v).map txtT) := by
 unfold mayVw at h
 simp only [Bool.and_eq_true, List.all_eq_true] at h
 obtain ⟨a1, a2, a3, a4, a5, a6, a7, a8, a9⟩ := h
 have hp : listW numW v.pick = some ((sepT (fun n => [intT n]) v.pick).map txtT) := list_words numW _ v.pick (fun n _ => rfl)
 have hg : grpW v.grp v.aggs = some ((if v.grp then tW w_group :: sepT agT v.aggs else []).map txtT) := by
  unfold grpW
  cases v.grp
  · rfl
  · rw [if_pos rfl, if_pos rfl, list_words agW agT v.aggs (fun a ha => agg_words (a8 a ha)), catW_some]; rfl
 have hpic : picW v.pick v.grp v.aggs = some ((tW w_pick :: (sepT (fun n => [intT n]) v.pick ++ (if v.grp then tW w_group :: sepT agT v.aggs else []))).map txtT) := by
  unfold picW
  rw [hp, hg, catW_some, catW_some, List.map_cons, List.map_append]; rfl
 have hwh : whrW v.whr v.pick v.grp v.aggs = some (((if v.whr.isEmpty then [] else tW w_where :: exprT v.whr) ++ tW w_pick :: (sepT (fun n => [intT n]) v.pick ++ (if v.grp then tW w_group :: sepT agT v.aggs else []))).map txtT) := by
  unfold whrW
  rw [hpic, expr_words a4]
  cases hw : v.whr with
  | nil => rw [if_pos rfl, catW_some]; rfl
  | cons x r => rw [if_neg (by simp), catW_some, catW_some, List.map_append]; rfl
 obtain ⟨T, hT⟩ : ∃ T, ((if v.whr.isEmpty then [] else tW w_where :: exprT v.whr) ++ tW w_pick :: (sepT (fun n => [intT n]) v.pick ++ (if v.grp then tW w_group :: sepT agT v.aggs else []))) = T := ⟨_, rfl⟩
 have e : vwT v = tN v.name :: tW w_from :: tN v.frm :: ((if v.wth.toList.isEmpty then [] else [tW w_join, tN v.wth, tW w_on, intT v.on0, tS s_eq, intT v.on1]) ++ T) := by rw [← hT]; rfl
 rw [hT] at hwh
 rw [e]
 unfold vwW wthW
 rw [hwh, size_if]
 cases hj : v.wth.toList.isEmpty <;> simp [catW, txt_tW, txt_tN, txt_tS, txt_int]
theorem def_words {d : Df} (h : MayD d) : dfW d = some ((toksD d).map txtT) := by
 obtain ⟨k, t, v⟩ := d
 rcases h with ⟨rfl, h1, rfl⟩ | ⟨rfl, rfl, h1⟩
 · unfold dfW toksD
   simp only at h1
   simp only [if_true]
   rw [table_words h1]; rfl
 · unfold dfW toksD
   simp only at h1
   have n1 : ¬ (1 : Int) = 0 := by decide
   simp only [if_neg n1]
   rw [view_words h1]; rfl
theorem addW_tail : ∀ (ws : List (List UInt8)) (l : List UInt8), l ≠ [] → l.length ≤ 20000 → addW l ws = if (l ++ Lib.joinTail [32] ws).length ≤ 20000 then some (l ++ Lib.joinTail [32] ws) else none
 | [], l, _, hl => by
   have e : l ++ Lib.joinTail [32] [] = l := by simp [Lib.joinTail]
   rw [e, if_pos hl]; rfl
 | s :: ss, l, h, hl => by
   have hb : blankW l = l ++ [32] := by unfold blankW; rw [if_neg h]
   have e : l ++ Lib.joinTail [32] (s :: ss) = (l ++ [32] ++ s) ++ Lib.joinTail [32] ss := by simp [Lib.joinTail]
   rw [e]
   unfold addW
   rw [hb]
   by_cases hc : (l ++ [32]).length + s.length ≤ 20000
   · rw [if_pos hc, addW_tail ss (l ++ [32] ++ s) (by simp) (by rw [List.length_append]; exact hc)]
   · rw [if_neg hc, if_neg (by rw [List.length_append, List.length_append]; omega)]
theorem addW_join (s : List UInt8) (ss : List (List UInt8)) (h : s ≠ []) (hs : s.length ≤ 20000) : addW [] (s :: ss) = if (Lib.join (s :: ss) [32]).length ≤ 20000 then some (Lib.join (s :: ss) [32]) else none := by
 rw [Lib.join_cons]
 have e : addW [] (s :: ss) = addW s ss := by
  show (if (blankW []).length + s.length ≤ 20000 then addW (blankW [] ++ s) ss else none) = _
  rw [show blankW [] = [] from rfl, if_pos (by simpa using hs)]; rfl
 rw [e, addW_tail ss s h hs]
def wrO (d : Df) : Option (List UInt8) := (dfW d).bind (addW [])
theorem wr_may {d : Df} (h : MayD d) : wrO d = if (printL (toksD d)).length ≤ 20000 then some (printL (toksD d)) else none := by
 unfold wrO
 rw [def_words h]
 have hx : ∃ s ss, (toksD d).map txtT = s :: ss ∧ s ≠ [] ∧ s.length ≤ 20000 := by
  unfold toksD
  split
  · exact ⟨w_table, _, rfl, by decide, by decide⟩
  · exact ⟨w_view, _, rfl, by decide, by decide⟩
 obtain ⟨s, ss, h1, h2, h3⟩ := hx
 show addW [] ((toksD d).map txtT) = _
 unfold printL
 rw [h1, addW_join s ss h2 h3]
theorem addW_ge : ∀ (ws : List (List UInt8)) (l q : List UInt8), addW l ws = some q → l.length ≤ q.length
 | [], l, q, h => by
   have h : some l = some q := h
   rw [Option.some.inj h]; exact Nat.le_refl _
 | s :: ss, l, q, h => by
   have h : (if (blankW l).length + s.length ≤ 20000 then addW (blankW l ++ s) ss else none) = some q := h
   split at h
   · have := addW_ge ss _ q h
     have hb : l.length ≤ (blankW l).length := by
      unfold blankW
      split
      · rename_i h0; rw [h0]; exact Nat.le_refl _
      · simp
     rw [List.length_append] at this
     omega
   · cases h
theorem wr_ne {d : Df} {l : List UInt8} (h : wrO d = some l) : l ≠ [] := by
 unfold wrO dfW at h
 rw [catW_add] at h
 unfold chW at h
 split at h
 · rename_i hk
   have hx : ∃ x, dfWs.getD d.k.toNat [] = x ∧ 1 ≤ x.length ∧ x.length ≤ 20 := by
    have : d.k = 0 ∨ d.k = 1 := by have h2 : d.k < ((2 : Nat) : Int) := hk.2; have h1 := hk.1; omega
    rcases this with h | h <;> rw [h] <;> exact ⟨_, rfl, by decide, by decide⟩
   obtain ⟨x, e, h1, h2⟩ := hx
   rw [e, Option.bind_some] at h
   have e2 : addW [] [x] = some x := by
    show (if (blankW []).length + x.length ≤ 20000 then addW (blankW [] ++ x) [] else none) = _
    rw [show blankW [] = [] from rfl, if_pos (by simp; omega)]; rfl
   rw [e2, Option.bind_some] at h
   cases hp : (if d.k = 0 then tbW d.t else vwW d.v) with
   | none => rw [hp] at h; cases h
   | some ws =>
     rw [hp, Option.bind_some] at h
     have := addW_ge ws x l h
     intro e; rw [e, List.length_nil] at this; omega
 · cases h
theorem DfOk.d64 {d : Df} (h : DfOk d) : D64 d := ⟨fun e he x hx => (h.t.chks e he x hx).2.1, fun x hx => (h.v.whr x hx).2.1⟩
def readD (l : List UInt8) : Option Df := (lexL l).bind parseD
def PrT (d : Df) (t : List UInt8) : Prop := (MayD d ∧ (printL (toksD d)).length ≤ 20000 ∧ t = printL (toksD d)) ∨ (¬ (MayD d ∧ (printL (toksD d)).length ≤ 20000) ∧ t = [])
theorem read_may {l : List UInt8} {d : Df} (h : readD l = some d) : MayD d ∧ D64 d ∧ (printL (toksD d)).length ≤ 2 * l.length := by
 unfold readD at h
 cases hs : lexL l with
 | none => rw [hs] at h; cases h
 | some a => rw [hs] at h; exact read_print hs h
theorem wr_yes {d : Df} {l : List UInt8} (h : wrO d = some l) (hr : readD l = some d) : PrT d l := by
 have hm := (read_may hr).1
 rw [wr_may hm] at h
 split at h
 · rename_i hl
   exact .inl ⟨hm, hl, (Option.some.inj h).symm⟩
 · cases h
theorem wr_no {d : Df} (h6 : D64 d) (h : ∀ l, wrO d = some l → readD l ≠ some d) : PrT d [] := by
 refine .inr ⟨fun hm => ?_, rfl⟩
 have := wr_may hm.1
 rw [if_pos hm.2] at this
 exact h _ this (print_read hm.1 h6)
theorem run_eqInT (w : World) (k vk vn k' vk' vn' : Int) (s vs s' vs' : ByteArray) : (Op.equalIn 10000 129 (.agg #[.int .i64 k, .string s, .int .i64 vk, .int .i64 vn, .string vs]) (.agg #[.int .i64 k', .string s', .int .i64 vk', .int .i64 vn', .string vs'])).run Tryz.prog w = .ok (Tk.eq ⟨k, s, vk, vn, vs⟩ ⟨k', s', vk', vn', vs'⟩) w := by
 simp [go_sem, Tryz.underlying129, Tryz.underlying81, Tryz.underlying3, Tryz.underlying9]
 by_cases h1 : k = k' <;> by_cases h2 : s.toList = s'.toList <;> by_cases h3 : vk = vk' <;> by_cases h4 : vn = vn' <;> by_cases h5 : vs.toList = vs'.toList <;> simp [Tk.eq, Val.eq, h1, h2, h3, h4, h5]
theorem run_neT (w : World) (k vk vn k' vk' vn' : Int) (s vs s' vs' : ByteArray) : (binOp .neq 129 (.agg #[.int .i64 k, .string s, .int .i64 vk, .int .i64 vn, .string vs]) (.agg #[.int .i64 k', .string s', .int .i64 vk', .int .i64 vn', .string vs'])).run Tryz.prog w = .ok (.bool !(Tk.eq ⟨k, s, vk, vn, vs⟩ ⟨k', s', vk', vn', vs'⟩)) w := by
 rw [run_neq_struct, run_eqInT]; rfl
instance : DecidableEq Tk := fun _ _ => decidable_of_iff _ Tk.eq_iff
theorem drop_at {α : Type} {l : List α} {k : Nat} {x : α} (hx : l[k]? = some x) : l.drop k = x :: l.drop (k + 1) := by
 have h1 := List.drop_eq_getElem_cons (List.getElem?_eq_some_iff.1 hx).1
 rw [(List.getElem?_eq_some_iff.1 hx).2] at h1
 exact h1
section
attribute [local go_sem ↓] run_neT run_eqV run_neV
end
end Go.Proofs.YtamekagminbejaaGreatDoor
namespace Go.Proofs.YtamekagminbejaaGreatDoor
open Go Go.RowKit
set_option maxRecDepth 100000
section
attribute [local go_sem ↓] run_neN run_neC run_neA
set_option maxHeartbeats 1000000 in
theorem eqI_c (A B : Option Addr) (n m c d : Nat) (xs ys : List Int) (w : World) (hn : xs.length = n) (hm : ys.length = m) (hn1 : n ≤ maxLen) (hm1 : m ≤ maxLen) (hs : SlG w A 1 rdI xs) (ks : SlG w B 1 rdI ys) :
 Calls Tryz.prog 153 #[.slice A n c, .slice B m d] w fun e w' => e = .returned (.bool (decide (xs = ys))) ∧ Below w.heap.size w w' := by
 unfold maxLen at hn1 hm1
 obtain ⟨R, hR⟩ : ∃ R, decide (xs = ys) = R := ⟨_, rfl⟩
 rw [hR]
 have HR := Lib.hid hR
 have Hn := Lib.hid hn
 have Hm := Lib.hid hm
 have Hs := Lib.hid hs
 have Ks := Lib.hid ks
 clear hn hm hs ks hR
 by_cases hnm : n = m
 case neg =>
  have hRf : false = R := by
   rw [← HR.out]
   exact (decide_eq_false (fun e => hnm (by rw [← Hn.out, ← Hm.out, e]))).symm
  subst hRf
  clear HR
  have hne : ((n : Int) != (m : Int)) = true := by simpa using (by omega : ¬ (n : Int) = m)
  go_enter Tryz.func153, Tryz.ntmps153
  go_wp2
  go_ret
  exact ⟨rfl, Below.refl _ _⟩
 subst hnm
 go_enter Tryz.func153, Tryz.ntmps153
 go_wp2_with fail
 go_loopw [13] (fun i wr => ∃ k : Nat, k ≤ n ∧ i = .int .i64 k ∧ Hid (Below w.heap.size w wr) ∧ Hid (decide (xs.drop k = ys.drop k) = R)) (fun i _ => n - (intOf i).toNat)
 case atStart => exact ⟨0, Nat.zero_le _, rfl, Below.refl _ _, HR⟩
 case round =>
  obtain ⟨k, hk, rfl, hb, hinv⟩ := hrel
  clear HR
  by_cases hlt : k < n
  · obtain ⟨b, off, x, rfl, hblt, hx, hc⟩ := Hs.out.atS (by rw [Hn.out]; exact hlt)
    obtain ⟨b', off', y, rfl, hblt', hy, hc'⟩ := Ks.out.atS (by rw [Hm.out]; exact hlt)
    have d0 := (hb.out.cell (p := ⟨b, off + k, none⟩) hblt).trans (by have := hc 0 _ rfl; simpa using this)
    have e0 := (hb.out.cell (p := ⟨b', off' + k, none⟩) hblt').trans (by have := hc' 0 _ rfl; simpa using this)
    have l1 : b < wr.heap.size := Nat.lt_of_lt_of_le hblt hb.out.size
    have l2 : b' < wr.heap.size := Nat.lt_of_lt_of_le hblt' hb.out.size
    have hst : (decide (x = y) && decide (xs.drop (k + 1) = ys.drop (k + 1))) = R := by
     rw [← hinv.out, drop_at hx, drop_at hy, Bool.eq_iff_iff]
     simp
    have Hst := Lib.hid hst
    clear hinv hx hy hc hc' hblt hblt' hst
    go_wp2_with fail
    go_region
    have hE : (x != y) = !decide (x = y) := by rw [Bool.eq_iff_iff]; simp
    rw [hE]
    have Hb2 := Lib.hid hb.out.drew
    clear hE
    cases hxy : decide (x = y)
    · have hRf : false = R := by have := Hst.out; rw [hxy, Bool.false_and] at this; exact this
      subst hRf
      clear Hst hxy
      go_wp2
      go_ret
      exact ⟨rfl, Hb2.out⟩
    · have hst : decide (xs.drop (k + 1) = ys.drop (k + 1)) = R := by have := Hst.out; rw [hxy, Bool.true_and] at this; exact this
      have Hst2 := Lib.hid hst
      clear Hst hxy hst
      go_wp2
      go_roundw
      case rel => exact ⟨k + 1, by omega, by go_num, Hb2, Hst2⟩
      case measure => simp [intOf]; omega
  · obtain rfl : k = n := by omega
    have hRt : true = R := by
     have := hinv.out
     rw [show xs.drop k = [] from List.drop_eq_nil_of_le (by rw [Hn.out]; omega), show ys.drop k = [] from List.drop_eq_nil_of_le (by rw [Hm.out]; omega)] at this
     exact this
    subst hRt
    clear hinv
    go_wp2
    go_ret
    exact ⟨rfl, hb.out⟩
set_option maxHeartbeats 1000000 in
theorem eqN_c (A B : Option Addr) (n m c d : Nat) (xs ys : List Nd) (w : World) (hn : xs.length = n) (hm : ys.length = m) (hn1 : n ≤ maxLen) (hm1 : m ≤ maxLen) (hs : SlG w A 5 rdN xs) (ks : SlG w B 5 rdN ys) :
 Calls Tryz.prog 175 #[.slice A n c, .slice B m d] w fun e w' => e = .returned (.bool (decide (xs = ys))) ∧ Below w.heap.size w w' := by
 unfold maxLen at hn1 hm1
 obtain ⟨R, hR⟩ : ∃ R, decide (xs = ys) = R := ⟨_, rfl⟩
 rw [hR]
 have HR := Lib.hid hR
 have Hn := Lib.hid hn
 have Hm := Lib.hid hm
 have Hs := Lib.hid hs
 have Ks := Lib.hid ks
 clear hn hm hs ks hR
 by_cases hnm : n = m
 case neg =>
  have hRf : false = R := by
   rw [← HR.out]
   exact (decide_eq_false (fun e => hnm (by rw [← Hn.out, ← Hm.out, e]))).symm
  subst hRf
  clear HR
  have hne : ((n : Int) != (m : Int)) = true := by simpa using (by omega : ¬ (n : Int) = m)
  go_enter Tryz.func175, Tryz.ntmps175
  go_wp2
  go_ret
  exact ⟨rfl, Below.refl _ _⟩
 subst hnm
 go_enter Tryz.func175, Tryz.ntmps175
 go_wp2_with fail
 go_loopw [13] (fun i wr => ∃ k : Nat, k ≤ n ∧ i = .int .i64 k ∧ Hid (Below w.heap.size w wr) ∧ Hid (decide (xs.drop k = ys.drop k) = R)) (fun i _ => n - (intOf i).toNat)
 case atStart => exact ⟨0, Nat.zero_le _, rfl, Below.refl _ _, HR⟩
 case round =>
  obtain ⟨k, hk, rfl, hb, hinv⟩ := hrel
  clear HR
  by_cases hlt : k < n
  · obtain ⟨b, off, x, rfl, hblt, hx, hc⟩ := Hs.out.atS (by rw [Hn.out]; exact hlt)
    obtain ⟨b', off', y, rfl, hblt', hy, hc'⟩ := Ks.out.atS (by rw [Hm.out]; exact hlt)
    have d0 := (hb.out.cell (p := ⟨b, off + k * 5, none⟩) hblt).trans (by have := hc 0 _ rfl; simpa using this)
    have d1 := (hb.out.cell (p := ⟨b, off + k * 5 + 1, none⟩) hblt).trans (by have := hc 1 _ rfl; simpa using this)
    have d2 := (hb.out.cell (p := ⟨b, off + k * 5 + 2, none⟩) hblt).trans (by have := hc 2 _ rfl; simpa using this)
    have d3 := (hb.out.cell (p := ⟨b, off + k * 5 + 3, none⟩) hblt).trans (by have := hc 3 _ rfl; simpa using this)
    have d4 := (hb.out.cell (p := ⟨b, off + k * 5 + 4, none⟩) hblt).trans (by have := hc 4 _ rfl; simpa using this)
    have e0 := (hb.out.cell (p := ⟨b', off' + k * 5, none⟩) hblt').trans (by have := hc' 0 _ rfl; simpa using this)
    have e1 := (hb.out.cell (p := ⟨b', off' + k * 5 + 1, none⟩) hblt').trans (by have := hc' 1 _ rfl; simpa using this)
    have e2 := (hb.out.cell (p := ⟨b', off' + k * 5 + 2, none⟩) hblt').trans (by have := hc' 2 _ rfl; simpa using this)
    have e3 := (hb.out.cell (p := ⟨b', off' + k * 5 + 3, none⟩) hblt').trans (by have := hc' 3 _ rfl; simpa using this)
    have e4 := (hb.out.cell (p := ⟨b', off' + k * 5 + 4, none⟩) hblt').trans (by have := hc' 4 _ rfl; simpa using this)
    have l1 : b < wr.heap.size := Nat.lt_of_lt_of_le hblt hb.out.size
    have l2 : b' < wr.heap.size := Nat.lt_of_lt_of_le hblt' hb.out.size
    have hst : (decide (x = y) && decide (xs.drop (k + 1) = ys.drop (k + 1))) = R := by
     rw [← hinv.out, drop_at hx, drop_at hy, Bool.eq_iff_iff]
     simp
    have Hst := Lib.hid hst
    clear hinv hx hy hc hc' hblt hblt' hst
    go_wp2_with fail
    go_region
    have hE : Nd.eqB ⟨x.op, x.n, ⟨x.v.k, x.v.n, x.v.s⟩⟩ ⟨y.op, y.n, ⟨y.v.k, y.v.n, y.v.s⟩⟩ = decide (x = y) := rfl
    rw [hE]
    have Hb2 := Lib.hid hb.out.drew
    clear hE
    cases hxy : decide (x = y)
    · have hRf : false = R := by have := Hst.out; rw [hxy, Bool.false_and] at this; exact this
      subst hRf
      clear Hst hxy
      go_wp2
      go_ret
      exact ⟨rfl, Hb2.out⟩
    · have hst : decide (xs.drop (k + 1) = ys.drop (k + 1)) = R := by have := Hst.out; rw [hxy, Bool.true_and] at this; exact this
      have Hst2 := Lib.hid hst
      clear Hst hxy hst
      go_wp2
      go_roundw
      case rel => exact ⟨k + 1, by omega, by go_num, Hb2, Hst2⟩
      case measure => simp [intOf]; omega
  · obtain rfl : k = n := by omega
    have hRt : true = R := by
     have := hinv.out
     rw [show xs.drop k = [] from List.drop_eq_nil_of_le (by rw [Hn.out]; omega), show ys.drop k = [] from List.drop_eq_nil_of_le (by rw [Hm.out]; omega)] at this
     exact this
    subst hRt
    clear hinv
    go_wp2
    go_ret
    exact ⟨rfl, hb.out⟩
set_option maxHeartbeats 1000000 in
theorem eqC_c (A B : Option Addr) (n m c d : Nat) (xs ys : List Cl) (w : World) (hn : xs.length = n) (hm : ys.length = m) (hn1 : n ≤ maxLen) (hm1 : m ≤ maxLen) (hs : SlG w A 6 rdCl xs) (ks : SlG w B 6 rdCl ys) :
 Calls Tryz.prog 150 #[.slice A n c, .slice B m d] w fun e w' => e = .returned (.bool (decide (xs = ys))) ∧ Below w.heap.size w w' := by
 unfold maxLen at hn1 hm1
 obtain ⟨R, hR⟩ : ∃ R, decide (xs = ys) = R := ⟨_, rfl⟩
 rw [hR]
 have HR := Lib.hid hR
 have Hn := Lib.hid hn
 have Hm := Lib.hid hm
 have Hs := Lib.hid hs
 have Ks := Lib.hid ks
 clear hn hm hs ks hR
 by_cases hnm : n = m
 case neg =>
  have hRf : false = R := by
   rw [← HR.out]
   exact (decide_eq_false (fun e => hnm (by rw [← Hn.out, ← Hm.out, e]))).symm
  subst hRf
  clear HR
  have hne : ((n : Int) != (m : Int)) = true := by simpa using (by omega : ¬ (n : Int) = m)
  go_enter Tryz.func150, Tryz.ntmps150
  go_wp2
  go_ret
  exact ⟨rfl, Below.refl _ _⟩
 subst hnm
 go_enter Tryz.func150, Tryz.ntmps150
 go_wp2_with fail
 go_loopw [13] (fun i wr => ∃ k : Nat, k ≤ n ∧ i = .int .i64 k ∧ Hid (Below w.heap.size w wr) ∧ Hid (decide (xs.drop k = ys.drop k) = R)) (fun i _ => n - (intOf i).toNat)
 case atStart => exact ⟨0, Nat.zero_le _, rfl, Below.refl _ _, HR⟩
 case round =>
  obtain ⟨k, hk, rfl, hb, hinv⟩ := hrel
  clear HR
  by_cases hlt : k < n
  · obtain ⟨b, off, x, rfl, hblt, hx, hc⟩ := Hs.out.atS (by rw [Hn.out]; exact hlt)
    obtain ⟨b', off', y, rfl, hblt', hy, hc'⟩ := Ks.out.atS (by rw [Hm.out]; exact hlt)
    have d0 := (hb.out.cell (p := ⟨b, off + k * 6, none⟩) hblt).trans (by have := hc 0 _ rfl; simpa using this)
    have d1 := (hb.out.cell (p := ⟨b, off + k * 6 + 1, none⟩) hblt).trans (by have := hc 1 _ rfl; simpa using this)
    have d2 := (hb.out.cell (p := ⟨b, off + k * 6 + 2, none⟩) hblt).trans (by have := hc 2 _ rfl; simpa using this)
    have d3 := (hb.out.cell (p := ⟨b, off + k * 6 + 3, none⟩) hblt).trans (by have := hc 3 _ rfl; simpa using this)
    have d4 := (hb.out.cell (p := ⟨b, off + k * 6 + 4, none⟩) hblt).trans (by have := hc 4 _ rfl; simpa using this)
    have d5 := (hb.out.cell (p := ⟨b, off + k * 6 + 5, none⟩) hblt).trans (by have := hc 5 _ rfl; simpa using this)
    have e0 := (hb.out.cell (p := ⟨b', off' + k * 6, none⟩) hblt').trans (by have := hc' 0 _ rfl; simpa using this)
    have e1 := (hb.out.cell (p := ⟨b', off' + k * 6 + 1, none⟩) hblt').trans (by have := hc' 1 _ rfl; simpa using this)
    have e2 := (hb.out.cell (p := ⟨b', off' + k * 6 + 2, none⟩) hblt').trans (by have := hc' 2 _ rfl; simpa using this)
    have e3 := (hb.out.cell (p := ⟨b', off' + k * 6 + 3, none⟩) hblt').trans (by have := hc' 3 _ rfl; simpa using this)
    have e4 := (hb.out.cell (p := ⟨b', off' + k * 6 + 4, none⟩) hblt').trans (by have := hc' 4 _ rfl; simpa using this)
    have e5 := (hb.out.cell (p := ⟨b', off' + k * 6 + 5, none⟩) hblt').trans (by have := hc' 5 _ rfl; simpa using this)
    have l1 : b < wr.heap.size := Nat.lt_of_lt_of_le hblt hb.out.size
    have l2 : b' < wr.heap.size := Nat.lt_of_lt_of_le hblt' hb.out.size
    have hst : (decide (x = y) && decide (xs.drop (k + 1) = ys.drop (k + 1))) = R := by
     rw [← hinv.out, drop_at hx, drop_at hy, Bool.eq_iff_iff]
     simp
    have Hst := Lib.hid hst
    clear hinv hx hy hc hc' hblt hblt' hst
    go_wp2_with fail
    go_region
    have hE : Cl.eqB ⟨x.name, x.kind, x.nul, x.uni, x.ref, x.act⟩ ⟨y.name, y.kind, y.nul, y.uni, y.ref, y.act⟩ = decide (x = y) := rfl
    rw [hE]
    have Hb2 := Lib.hid hb.out.drew
    clear hE
    cases hxy : decide (x = y)
    · have hRf : false = R := by have := Hst.out; rw [hxy, Bool.false_and] at this; exact this
      subst hRf
      clear Hst hxy
      go_wp2
      go_ret
      exact ⟨rfl, Hb2.out⟩
    · have hst : decide (xs.drop (k + 1) = ys.drop (k + 1)) = R := by have := Hst.out; rw [hxy, Bool.true_and] at this; exact this
      have Hst2 := Lib.hid hst
      clear Hst hxy hst
      go_wp2
      go_roundw
      case rel => exact ⟨k + 1, by omega, by go_num, Hb2, Hst2⟩
      case measure => simp [intOf]; omega
  · obtain rfl : k = n := by omega
    have hRt : true = R := by
     have := hinv.out
     rw [show xs.drop k = [] from List.drop_eq_nil_of_le (by rw [Hn.out]; omega), show ys.drop k = [] from List.drop_eq_nil_of_le (by rw [Hm.out]; omega)] at this
     exact this
    subst hRt
    clear hinv
    go_wp2
    go_ret
    exact ⟨rfl, hb.out⟩
set_option maxHeartbeats 1000000 in
theorem eqA_c (A B : Option Addr) (n m c d : Nat) (xs ys : List Ag) (w : World) (hn : xs.length = n) (hm : ys.length = m) (hn1 : n ≤ maxLen) (hm1 : m ≤ maxLen) (hs : SlG w A 2 rdAg xs) (ks : SlG w B 2 rdAg ys) :
 Calls Tryz.prog 154 #[.slice A n c, .slice B m d] w fun e w' => e = .returned (.bool (decide (xs = ys))) ∧ Below w.heap.size w w' := by
 unfold maxLen at hn1 hm1
 obtain ⟨R, hR⟩ : ∃ R, decide (xs = ys) = R := ⟨_, rfl⟩
 rw [hR]
 have HR := Lib.hid hR
 have Hn := Lib.hid hn
 have Hm := Lib.hid hm
 have Hs := Lib.hid hs
 have Ks := Lib.hid ks
 clear hn hm hs ks hR
 by_cases hnm : n = m
 case neg =>
  have hRf : false = R := by
   rw [← HR.out]
   exact (decide_eq_false (fun e => hnm (by rw [← Hn.out, ← Hm.out, e]))).symm
  subst hRf
  clear HR
  have hne : ((n : Int) != (m : Int)) = true := by simpa using (by omega : ¬ (n : Int) = m)
  go_enter Tryz.func154, Tryz.ntmps154
  go_wp2
  go_ret
  exact ⟨rfl, Below.refl _ _⟩
 subst hnm
 go_enter Tryz.func154, Tryz.ntmps154
 go_wp2_with fail
 go_loopw [13] (fun i wr => ∃ k : Nat, k ≤ n ∧ i = .int .i64 k ∧ Hid (Below w.heap.size w wr) ∧ Hid (decide (xs.drop k = ys.drop k) = R)) (fun i _ => n - (intOf i).toNat)
 case atStart => exact ⟨0, Nat.zero_le _, rfl, Below.refl _ _, HR⟩
 case round =>
  obtain ⟨k, hk, rfl, hb, hinv⟩ := hrel
  clear HR
  by_cases hlt : k < n
  · obtain ⟨b, off, x, rfl, hblt, hx, hc⟩ := Hs.out.atS (by rw [Hn.out]; exact hlt)
    obtain ⟨b', off', y, rfl, hblt', hy, hc'⟩ := Ks.out.atS (by rw [Hm.out]; exact hlt)
    have d0 := (hb.out.cell (p := ⟨b, off + k * 2, none⟩) hblt).trans (by have := hc 0 _ rfl; simpa using this)
    have d1 := (hb.out.cell (p := ⟨b, off + k * 2 + 1, none⟩) hblt).trans (by have := hc 1 _ rfl; simpa using this)
    have e0 := (hb.out.cell (p := ⟨b', off' + k * 2, none⟩) hblt').trans (by have := hc' 0 _ rfl; simpa using this)
    have e1 := (hb.out.cell (p := ⟨b', off' + k * 2 + 1, none⟩) hblt').trans (by have := hc' 1 _ rfl; simpa using this)
    have l1 : b < wr.heap.size := Nat.lt_of_lt_of_le hblt hb.out.size
    have l2 : b' < wr.heap.size := Nat.lt_of_lt_of_le hblt' hb.out.size
    have hst : (decide (x = y) && decide (xs.drop (k + 1) = ys.drop (k + 1))) = R := by
     rw [← hinv.out, drop_at hx, drop_at hy, Bool.eq_iff_iff]
     simp
    have Hst := Lib.hid hst
    clear hinv hx hy hc hc' hblt hblt' hst
    go_wp2_with fail
    go_region
    have hE : Ag.eqB ⟨x.fn, x.col⟩ ⟨y.fn, y.col⟩ = decide (x = y) := rfl
    rw [hE]
    have Hb2 := Lib.hid hb.out.drew
    clear hE
    cases hxy : decide (x = y)
    · have hRf : false = R := by have := Hst.out; rw [hxy, Bool.false_and] at this; exact this
      subst hRf
      clear Hst hxy
      go_wp2
      go_ret
      exact ⟨rfl, Hb2.out⟩
    · have hst : decide (xs.drop (k + 1) = ys.drop (k + 1)) = R := by have := Hst.out; rw [hxy, Bool.true_and] at this; exact this
      have Hst2 := Lib.hid hst
      clear Hst hxy hst
      go_wp2
      go_roundw
      case rel => exact ⟨k + 1, by omega, by go_num, Hb2, Hst2⟩
      case measure => simp [intOf]; omega
  · obtain rfl : k = n := by omega
    have hRt : true = R := by
     have := hinv.out
     rw [show xs.drop k = [] from List.drop_eq_nil_of_le (by rw [Hn.out]; omega), show ys.drop k = [] from List.drop_eq_nil_of_le (by rw [Hm.out]; omega)] at this
     exact this
    subst hRt
    clear hinv
    go_wp2
    go_ret
    exact ⟨rfl, hb.out⟩
end
end Go.Proofs.YtamekagminbejaaGreatDoor
namespace Go.Proofs.YtamekagminbejaaGreatDoor
open Go Go.RowKit
set_option maxRecDepth 100000
set_option maxHeartbeats 1000000 in
theorem smE_c (A B : Option Addr) (n m c d : Nat) (xs ys : List Nd) (w : World) (hn : xs.length = n) (hm : ys.length = m) (hn1 : n ≤ maxLen) (hm1 : m ≤ maxLen) (hs : SlG w A 5 rdN xs) (ks : SlG w B 5 rdN ys) :
 Calls Tryz.prog 152 #[.slice A n c, .slice B m d] w fun e w' => e = .returned (.bool (decide (xs = ys))) ∧ Below w.heap.size w w' := by
 have H := Lib.hid (eqN_c A B n m c d xs ys w hn hm hn1 hm1 hs ks)
 obtain ⟨R, hR⟩ : ∃ R, decide (xs = ys) = R := ⟨_, rfl⟩
 rw [hR] at H ⊢
 clear hn hm hn1 hm1 hs ks hR
 go_enter Tryz.func152, Tryz.ntmps152
 go_wp2_with fail
 refine H.out.mono ?_
 rintro e w1 ⟨rfl, hb⟩
 have Hb := Lib.hid hb
 clear hb H
 go_wp2
 go_ret
 exact ⟨rfl, Hb.out⟩
set_option maxHeartbeats 2000000 in
theorem eqF_c (A B : Option Addr) (n m c d : Nat) (xs ys : List (Sx Nd)) (w : World) (hn : xs.length = n) (hm : ys.length = m) (hn1 : n ≤ maxLen) (hm1 : m ≤ maxLen) (hs : SlG w A 1 rdX xs) (ks : SlG w B 1 rdX ys) (hx : ∀ e ∈ xs, e.In w 5 rdN) (hy : ∀ e ∈ ys, e.In w 5 rdN) :
 Calls Tryz.prog 151 #[.slice A n c, .slice B m d, .func (.func 152) #[] #[]] w fun e w' => e = .returned (.bool (decide (xs.map (·.xs) = ys.map (·.xs)))) ∧ Below w.heap.size w w' := by
 unfold maxLen at hn1 hm1
 obtain ⟨R, hR⟩ : ∃ R, decide (xs.map (·.xs) = ys.map (·.xs)) = R := ⟨_, rfl⟩
 rw [hR]
 have HR := Lib.hid hR
 have Hn := Lib.hid hn
 have Hm := Lib.hid hm
 have Hs := Lib.hid hs
 have Ks := Lib.hid ks
 have Hx := Lib.hid hx
 have Hy := Lib.hid hy
 clear hn hm hs ks hR hx hy
 by_cases hnm : n = m
 case neg =>
  have hRf : false = R := by
   rw [← HR.out]
   exact (decide_eq_false (fun e => hnm (by have := congrArg List.length e; rw [List.length_map, List.length_map, Hn.out, Hm.out] at this; exact this))).symm
  subst hRf
  clear HR
  have hne : ((n : Int) != (m : Int)) = true := by simpa using (by omega : ¬ (n : Int) = m)
  go_enter Tryz.func151, Tryz.ntmps151
  go_wp2
  go_ret
  exact ⟨rfl, Below.refl _ _⟩
 subst hnm
 go_enter Tryz.func151, Tryz.ntmps151
 go_wp2_with fail
 go_loopw [17] (fun i wr => ∃ k : Nat, k ≤ n ∧ i = .int .i64 k ∧ Hid (Below w.heap.size w wr) ∧ Hid (decide ((xs.map (·.xs)).drop k = (ys.map (·.xs)).drop k) = R)) (fun i _ => n - (intOf i).toNat)
 case atStart => exact ⟨0, Nat.zero_le _, rfl, Below.refl _ _, HR⟩
 case round =>
  obtain ⟨q, hq, rfl, hb, hinv⟩ := hrel
  clear HR
  by_cases hlt2 : q < n
  · obtain ⟨b, off, x, rfl, hblt, hx, hc⟩ := Hs.out.atS (by rw [Hn.out]; exact hlt2)
    obtain ⟨b', off', y, rfl, hblt', hy, hc'⟩ := Ks.out.atS (by rw [Hm.out]; exact hlt2)
    have d0 : wr.cell? ⟨b, off + q, none⟩ = some (.slice x.A x.n x.c) := (hb.out.cell (p := ⟨b, off + q, none⟩) hblt).trans (by have := hc 0 _ rfl; simpa using this)
    have e0 : wr.cell? ⟨b', off' + q, none⟩ = some (.slice y.A y.n y.c) := (hb.out.cell (p := ⟨b', off' + q, none⟩) hblt').trans (by have := hc' 0 _ rfl; simpa using this)
    have HX := Lib.hid (((Hx.out x (List.mem_of_getElem? hx)).after hb.out))
    have HY := Lib.hid (((Hy.out y (List.mem_of_getElem? hy)).after hb.out))
    have l1 : b < wr.heap.size := Nat.lt_of_lt_of_le hblt hb.out.size
    have l2 : b' < wr.heap.size := Nat.lt_of_lt_of_le hblt' hb.out.size
    have hst : (decide (x.xs = y.xs) && decide ((xs.map (·.xs)).drop (q + 1) = (ys.map (·.xs)).drop (q + 1))) = R := by
     have ex : (xs.map (·.xs))[q]? = some x.xs := by rw [List.getElem?_map, hx]; rfl
     have ey : (ys.map (·.xs))[q]? = some y.xs := by rw [List.getElem?_map, hy]; rfl
     rw [← hinv.out, drop_at ex, drop_at ey, Bool.eq_iff_iff]
     simp
    have Hst := Lib.hid hst
    clear hinv hx hy hc hc' hblt hblt' hst
    obtain ⟨gA, gn, gc, gs⟩ := x
    obtain ⟨kA, kn, kc, ks⟩ := y
    simp only at *
    have HE := Lib.hid (smE_c gA kA gn kn gc kc gs ks wr HX.out.len HY.out.len HX.out.max HY.out.max HX.out.sl HY.out.sl)
    go_wp2_with fail
    refine HE.out.mono ?_
    rintro e w9 ⟨rfl, hb9⟩
    have Hb2 := Lib.hid (below_via hb.out hb9)
    clear d0 e0 HX HY HE hb9
    obtain ⟨Z, hZ⟩ : ∃ Z, decide (gs = ks) = Z := ⟨_, rfl⟩
    rw [hZ] at Hst ⊢
    clear hZ
    cases Z
    · have hRf : false = R := by have := Hst.out; rw [Bool.false_and] at this; exact this
      subst hRf
      clear Hst
      go_wp2
      go_ret
      exact ⟨rfl, Hb2.out⟩
    · have hst : decide ((xs.map (·.xs)).drop (q + 1) = (ys.map (·.xs)).drop (q + 1)) = R := by have := Hst.out; rw [Bool.true_and] at this; exact this
      have Hst2 := Lib.hid hst
      clear Hst hst
      go_wp2
      go_roundw
      case rel => exact ⟨q + 1, by omega, by go_num, Hb2, Hst2⟩
      case measure => simp [intOf]; omega
  · obtain rfl : q = n := by omega
    have hRt : true = R := by
     have := hinv.out
     rw [show (xs.map (·.xs)).drop q = [] from List.drop_eq_nil_of_le (by rw [List.length_map, Hn.out]; omega), show (ys.map (·.xs)).drop q = [] from List.drop_eq_nil_of_le (by rw [List.length_map, Hm.out]; omega)] at this
     exact this
    subst hRt
    clear hinv
    go_wp2
    go_ret
    exact ⟨rfl, hb.out⟩
section
attribute [local go_sem ↓] run_neN run_neC run_neA
set_option maxHeartbeats 1000000 in
theorem sameInts_c (A B : Option Addr) (n m c d : Nat) (xs ys : List Int) (w : World) (hn : xs.length = n) (hm : ys.length = m) (hn1 : n ≤ maxLen) (hm1 : m ≤ maxLen) (hs : SlG w A 1 rdI xs) (ks : SlG w B 1 rdI ys) :
 Calls Tryz.prog 17 #[.slice A n c, .slice B m d] w fun e w' => e = .returned (.bool (decide (xs = ys))) ∧ Below w.heap.size w w' := by
 unfold maxLen at hn1 hm1
 obtain ⟨R, hR⟩ : ∃ R, decide (xs = ys) = R := ⟨_, rfl⟩
 rw [hR]
 have HR := Lib.hid hR
 have Hn := Lib.hid hn
 have Hm := Lib.hid hm
 have Hs := Lib.hid hs
 have Ks := Lib.hid ks
 clear hn hm hs ks hR
 by_cases hnm : n = m
 case neg =>
  have hRf : false = R := by
   rw [← HR.out]
   exact (decide_eq_false (fun e => hnm (by rw [← Hn.out, ← Hm.out, e]))).symm
  subst hRf
  clear HR
  have hne : ((n : Int) != (m : Int)) = true := by simpa using (by omega : ¬ (n : Int) = m)
  go_enter Tryz.func17, Tryz.ntmps17
  go_wp2
  go_ret
  exact ⟨rfl, Below.refl _ _⟩
 subst hnm
 go_enter Tryz.func17, Tryz.ntmps17
 go_wp2_with fail
 go_loopw [5] (fun i wr => ∃ k : Nat, k ≤ n ∧ i = .int .i64 k ∧ Hid (Below w.heap.size w wr) ∧ Hid (decide (xs.drop k = ys.drop k) = R)) (fun i _ => n - (intOf i).toNat)
 case atStart => exact ⟨0, Nat.zero_le _, rfl, Below.refl _ _, HR⟩
 case round =>
  obtain ⟨k, hk, rfl, hb, hinv⟩ := hrel
  clear HR
  by_cases hlt : k < n
  · obtain ⟨b, off, x, rfl, hblt, hx, hc⟩ := Hs.out.atS (by rw [Hn.out]; exact hlt)
    obtain ⟨b', off', y, rfl, hblt', hy, hc'⟩ := Ks.out.atS (by rw [Hm.out]; exact hlt)
    have d0 := (hb.out.cell (p := ⟨b, off + k, none⟩) hblt).trans (by have := hc 0 _ rfl; simpa using this)
    have e0 := (hb.out.cell (p := ⟨b', off' + k, none⟩) hblt').trans (by have := hc' 0 _ rfl; simpa using this)
    have l1 : b < wr.heap.size := Nat.lt_of_lt_of_le hblt hb.out.size
    have l2 : b' < wr.heap.size := Nat.lt_of_lt_of_le hblt' hb.out.size
    have hst : (decide (x = y) && decide (xs.drop (k + 1) = ys.drop (k + 1))) = R := by
     rw [← hinv.out, drop_at hx, drop_at hy, Bool.eq_iff_iff]
     simp
    have Hst := Lib.hid hst
    clear hinv hx hy hc hc' hblt hblt' hst
    go_wp2_with fail
    go_region
    have hE : (x != y) = !decide (x = y) := by rw [Bool.eq_iff_iff]; simp
    rw [hE]
    have Hb2 := Lib.hid hb.out.drew
    clear hE
    cases hxy : decide (x = y)
    · have hRf : false = R := by have := Hst.out; rw [hxy, Bool.false_and] at this; exact this
      subst hRf
      clear Hst hxy
      go_wp2
      go_ret
      exact ⟨rfl, Hb2.out⟩
    · have hst : decide (xs.drop (k + 1) = ys.drop (k + 1)) = R := by have := Hst.out; rw [hxy, Bool.true_and] at this; exact this
      have Hst2 := Lib.hid hst
      clear Hst hxy hst
      go_wp2
      go_roundw
      case rel => exact ⟨k + 1, by omega, by go_num, Hb2, Hst2⟩
      case measure => simp [intOf]; omega
  · obtain rfl : k = n := by omega
    have hRt : true = R := by
     have := hinv.out
     rw [show xs.drop k = [] from List.drop_eq_nil_of_le (by rw [Hn.out]; omega), show ys.drop k = [] from List.drop_eq_nil_of_le (by rw [Hm.out]; omega)] at this
     exact this
    subst hRt
    clear hinv
    go_wp2
    go_ret
    exact ⟨rfl, hb.out⟩
end
end Go.Proofs.YtamekagminbejaaGreatDoor
namespace Go.Proofs.YtamekagminbejaaGreatDoor
open Go Go.RowKit
set_option maxRecDepth 100000
attribute [local go_sem ↓] Go.wp_at_zero Go.wp_at_succ
theorem alloc_at (w : World) (cs : Array Value) (E : TypeId) : (w.alloc (.cells cs E)).heap[w.heap.size]? = some (.cells cs E (0, 0)) := by
 show (w.heap.push _)[w.heap.size]? = _
 simp
section
attribute [local go_sem ↓] run_neN run_neC run_neA
end
end Go.Proofs.YtamekagminbejaaGreatDoor
namespace Go.Proofs.YtamekagminbejaaGreatDoor
open Go Go.RowKit Go
set_option maxRecDepth 100000
attribute [local go_sem ↓] Go.wp_at_zero Go.wp_at_succ
def onB (a b c d : Int) : Bool := decide (a = c) && decide (b = d)
theorem run_neO (w : World) (a b c d : Int) : (binOp .neq 30 (.agg #[.int .i64 a, .int .i64 b]) (.agg #[.int .i64 c, .int .i64 d])).run Tryz.prog w = .ok (.bool !(onB a b c d)) w := by
 have hi : ∃ i, Tryz.prog.info? 3 = some i := by
  have h : (Tryz.prog.info? 3).isSome = true := by kernel_rfl
  exact Option.isSome_iff_exists.1 h
 obtain ⟨i, hi⟩ := hi
 have hc : Tryz.prog.cellsOf 3 = 1 := by kernel_rfl
 have e : (Op.equalIn (9999 + 1) 30 (.agg #[.int .i64 a, .int .i64 b]) (.agg #[.int .i64 c, .int .i64 d])).run Tryz.prog w = .ok (onB a b c d) w := by
  rw [run_equalIn_array w 9999 _ _ Tryz.underlying30 hi, hc, show List.range 2 = [0, 1] from rfl]
  simp [Op.eqItems, go_sem, Tryz.underlying3]
  unfold onB
  by_cases h1 : a = c <;> by_cases h2 : b = d <;> simp [h1, h2]
 rw [run_neq_struct, e]; rfl
section
attribute [local go_sem ↓] run_neN run_neC run_neA run_neO
end
end Go.Proofs.YtamekagminbejaaGreatDoor
namespace Go.Proofs.YtamekagminbejaaGreatDoor
open Go Go.RowKit Go
set_option maxRecDepth 100000
attribute [local go_sem ↓] Go.wp_at_zero Go.wp_at_succ
def Dm.cells (x : Dm) : Array Value := #[.int .i64 x.k, .string x.t.name, .slice x.t.cols.A x.t.cols.n x.t.cols.c, .slice x.t.chks.A x.t.chks.n x.t.chks.c, .string x.v.name, .string x.v.frm, .string x.v.wth, .int .i64 x.v.on0, .int .i64 x.v.on1, .slice x.v.whr.A x.v.whr.n x.v.whr.c, .slice x.v.pick.A x.v.pick.n x.v.pick.c, .bool x.v.grp, .slice x.v.aggs.A x.v.aggs.n x.v.aggs.c]
end Go.Proofs.YtamekagminbejaaGreatDoor
namespace Go.Proofs.YtamekagminbejaaGreatDoor
open Go Go.RowKit
set_option maxRecDepth 100000
attribute [local go_sem ↓] Go.wp_at_zero Go.wp_at_succ
theorem run_eqO (w : World) (a b c d : Int) : (binOp .eql 30 (.agg #[.int .i64 a, .int .i64 b]) (.agg #[.int .i64 c, .int .i64 d])).run Tryz.prog w = .ok (.bool (onB a b c d)) w := by
 have hi : ∃ i, Tryz.prog.info? 3 = some i := by
  have h : (Tryz.prog.info? 3).isSome = true := by kernel_rfl
  exact Option.isSome_iff_exists.1 h
 obtain ⟨i, hi⟩ := hi
 have hc : Tryz.prog.cellsOf 3 = 1 := by kernel_rfl
 have e : (Op.equalIn (9999 + 1) 30 (.agg #[.int .i64 a, .int .i64 b]) (.agg #[.int .i64 c, .int .i64 d])).run Tryz.prog w = .ok (onB a b c d) w := by
  rw [run_equalIn_array w 9999 _ _ Tryz.underlying30 hi, hc, show List.range 2 = [0, 1] from rfl]
  simp [Op.eqItems, go_sem, Tryz.underlying3]
  unfold onB
  by_cases h1 : a = c <;> by_cases h2 : b = d <;> simp [h1, h2]
 rw [run_eql_struct, e]; rfl
section
attribute [local go_sem ↓] run_eqO
set_option maxHeartbeats 4000000 in
theorem smTb_c (x y : Tm) (w : World) (hx : x.In w) (hy : y.In w) :
 Calls Tryz.prog 133 #[x.w, y.w] w fun e w' => e = .returned (.bool (decide (x.tb = y.tb))) ∧ Below w.heap.size w w' := by
 obtain ⟨xn, ⟨xA, xm, xc, xs⟩, ⟨xB, xq, xd, xe⟩⟩ := x
 obtain ⟨yn, ⟨yA, ym, yc, ys⟩, ⟨yB, yq, yd, ye⟩⟩ := y
 have HC := Lib.hid (fun u (h : Below w.heap.size w u) => eqC_c xA yA xm ym xc yc xs ys u hx.cols.len hy.cols.len hx.cols.max hy.cols.max (hx.cols.sl.after h) (hy.cols.sl.after h))
 have HE := Lib.hid (fun u (h : Below w.heap.size w u) => eqF_c xB yB xq yq xd yd xe ye u hx.chks.len hy.chks.len hx.chks.max hy.chks.max (hx.chks.sl.after h) (hy.chks.sl.after h) (fun e he => (hx.each e he).after h) (fun e he => (hy.each e he).after h))
 obtain ⟨R, hR⟩ : ∃ R, decide ((⟨xn, ⟨xA, xm, xc, xs⟩, ⟨xB, xq, xd, xe⟩⟩ : Tm).tb = (⟨yn, ⟨yA, ym, yc, ys⟩, ⟨yB, yq, yd, ye⟩⟩ : Tm).tb) = R := ⟨_, rfl⟩
 rw [hR]
 obtain ⟨Z1, hZ1⟩ : ∃ Z, decide (xs = ys) = Z := ⟨_, rfl⟩
 obtain ⟨Z2, hZ2⟩ : ∃ Z, decide (xe.map (·.xs) = ye.map (·.xs)) = Z := ⟨_, rfl⟩
 have hR2 : R = (decide (xn = yn) && (Z1 && Z2)) := by
  rw [← hR, ← hZ1, ← hZ2, Bool.eq_iff_iff]
  simp [Tm.tb]
 have HR := Lib.hid hR2
 rw [hZ1] at HC
 rw [hZ2] at HE
 clear hR hR2 hZ1 hZ2 hx hy
 obtain ⟨W, hW⟩ : ∃ W, ((w.alloc (.cells #[.string xn, .slice xA xm xc, .slice xB xq xd] 29)).alloc (.cells #[.string yn, .slice yA ym yc, .slice yB yq yd] 29)) = W := ⟨_, rfl⟩
 have HX : Hid (Bk W w.heap.size #[.string xn, .slice xA xm xc, .slice xB xq xd] 29) := Lib.hid (by rw [← hW]; exact (Bk.new w _ _).after (below_one _ _) (by simp))
 have HY : Hid (Bk W (w.heap.size + 1) #[.string yn, .slice yA ym yc, .slice yB yq yd] 29) := Lib.hid (by
  rw [← hW]
  have := Bk.new (w.alloc (.cells #[.string xn, .slice xA xm xc, .slice xB xq xd] 29)) #[.string yn, .slice yA ym yc, .slice yB yq yd] 29
  simpa using this)
 have Hb0 : Hid (Below w.heap.size w W) := Lib.hid (by rw [← hW]; exact (below_one w _).alloc (by simp) _)
 have HWe := Lib.hid hW
 clear hW
 by_cases h1 : xn = yn
 case neg =>
  have n1 : ¬ xn.toList = yn.toList := fun h => h1 (toList_inj h)
  have hRf : R = false := by rw [HR.out, decide_eq_false h1]; rfl
  subst hRf
  clear HR HC HE HX HY h1
  go_enter Tryz.func133, Tryz.ntmps133
  go_wp2
  go_ret
  rw [HWe.out]
  exact ⟨rfl, Hb0.out⟩
 subst h1
 have HR2 : Hid ((Z1 && Z2) = R) := Lib.hid (by rw [HR.out]; simp)
 clear HR
 go_enter Tryz.func133, Tryz.ntmps133
 go_wp2_with fail
 rw [HWe.out]
 refine (HC.out W Hb0.out).mono ?_
 rintro e w1 ⟨rfl, hb1⟩
 have Hb1 := Lib.hid hb1
 clear hb1
 cases Z1
 · obtain rfl : false = R := HR2.out
   clear HR2 HC HE HX HY
   go_wp2
   go_ret
   exact ⟨rfl, below_via Hb0.out Hb1.out⟩
 · obtain rfl : Z2 = R := HR2.out
   have kx := Bk.after HX.out Hb1.out (by have := HX.out.lt; have := Hb1.out.size; omega)
   have ky := Bk.after HY.out Hb1.out (by have := HY.out.lt; have := Hb1.out.size; omega)
   have x0 : w1.cell? ⟨w.heap.size, 0, none⟩ = some (.string xn) := kx.cell 0
   have x1 : w1.cell? ⟨w.heap.size, 1, none⟩ = some (.slice xA xm xc) := kx.cell 1
   have x2 : w1.cell? ⟨w.heap.size, 2, none⟩ = some (.slice xB xq xd) := kx.cell 2
   have y0 : w1.cell? ⟨w.heap.size + 1, 0, none⟩ = some (.string xn) := ky.cell 0
   have y1 : w1.cell? ⟨w.heap.size + 1, 1, none⟩ = some (.slice yA ym yc) := ky.cell 1
   have y2 : w1.cell? ⟨w.heap.size + 1, 2, none⟩ = some (.slice yB yq yd) := ky.cell 2
   have kxl := kx.lt
   have kyl := ky.lt
   clear kx ky
   clear HR2 HC HX HY
   go_wp2_with fail
   refine (HE.out w1 (below_via Hb0.out Hb1.out)).mono ?_
   rintro e w2 ⟨rfl, hb2⟩
   have Hb2 := Lib.hid (below_via Hb1.out hb2)
   clear x0 x1 x2 y0 y1 y2 kxl kyl
   clear hb2 HE
   cases Z2
   all_goals
    go_wp2
    go_ret
    exact ⟨rfl, below_via Hb0.out Hb2.out⟩
set_option maxHeartbeats 8000000 in
theorem smVw_c (x y : Vm) (w : World) (hx : x.In w) (hy : y.In w) :
 Calls Tryz.prog 134 #[x.w, y.w] w fun e w' => e = .returned (.bool (decide (x.vw = y.vw))) ∧ Below w.heap.size w w' := by
 obtain ⟨xn, xf, xw, xo, xp, ⟨eA, en, ec, es⟩, ⟨pA, pn, pc, ps⟩, xg, ⟨aA, an, ac, az⟩⟩ := x
 obtain ⟨yn, yf, yw, yo, yp, ⟨fA, fn, fc, fs⟩, ⟨qA, qn, qc, qs⟩, yg, ⟨bA, bn, bc, bz⟩⟩ := y
 have HE := Lib.hid (fun u (h : Below w.heap.size w u) => smE_c eA fA en fn ec fc es fs u hx.whr.len hy.whr.len hx.whr.max hy.whr.max (hx.whr.sl.after h) (hy.whr.sl.after h))
 have HP := Lib.hid (fun u (h : Below w.heap.size w u) => eqI_c pA qA pn qn pc qc ps qs u hx.pick.len hy.pick.len hx.pick.max hy.pick.max (hx.pick.sl.after h) (hy.pick.sl.after h))
 have HA := Lib.hid (fun u (h : Below w.heap.size w u) => eqA_c aA bA an bn ac bc az bz u hx.aggs.len hy.aggs.len hx.aggs.max hy.aggs.max (hx.aggs.sl.after h) (hy.aggs.sl.after h))
 obtain ⟨R, hR⟩ : ∃ R, decide ((⟨xn, xf, xw, xo, xp, ⟨eA, en, ec, es⟩, ⟨pA, pn, pc, ps⟩, xg, ⟨aA, an, ac, az⟩⟩ : Vm).vw = (⟨yn, yf, yw, yo, yp, ⟨fA, fn, fc, fs⟩, ⟨qA, qn, qc, qs⟩, yg, ⟨bA, bn, bc, bz⟩⟩ : Vm).vw) = R := ⟨_, rfl⟩
 rw [hR]
 obtain ⟨Z1, hZ1⟩ : ∃ Z, decide (es = fs) = Z := ⟨_, rfl⟩
 obtain ⟨Z2, hZ2⟩ : ∃ Z, decide (ps = qs) = Z := ⟨_, rfl⟩
 obtain ⟨Z3, hZ3⟩ : ∃ Z, decide (az = bz) = Z := ⟨_, rfl⟩
 have hR2 : R = (decide (xn = yn) && (decide (xf = yf) && (decide (xw = yw) && (onB xo xp yo yp && (Z1 && (Z2 && (decide (xg = yg) && Z3))))))) := by
  rw [← hR, ← hZ1, ← hZ2, ← hZ3, Bool.eq_iff_iff]
  unfold onB
  simp [Vm.vw, and_assoc]
 have HR := Lib.hid hR2
 rw [hZ1] at HE
 rw [hZ2] at HP
 rw [hZ3] at HA
 clear hR hR2 hZ1 hZ2 hZ3 hx hy
 obtain ⟨W, hW⟩ : ∃ W, ((w.alloc (.cells #[.string xn, .string xf, .string xw, .int .i64 xo, .int .i64 xp, .slice eA en ec, .slice pA pn pc, .bool xg, .slice aA an ac] 36)).alloc (.cells #[.string yn, .string yf, .string yw, .int .i64 yo, .int .i64 yp, .slice fA fn fc, .slice qA qn qc, .bool yg, .slice bA bn bc] 36)) = W := ⟨_, rfl⟩
 have HX : Hid (Bk W w.heap.size #[.string xn, .string xf, .string xw, .int .i64 xo, .int .i64 xp, .slice eA en ec, .slice pA pn pc, .bool xg, .slice aA an ac] 36) := Lib.hid (by rw [← hW]; exact (Bk.new w _ _).after (below_one _ _) (by simp))
 have HY : Hid (Bk W (w.heap.size + 1) #[.string yn, .string yf, .string yw, .int .i64 yo, .int .i64 yp, .slice fA fn fc, .slice qA qn qc, .bool yg, .slice bA bn bc] 36) := Lib.hid (by
  rw [← hW]
  have := Bk.new (w.alloc (.cells #[.string xn, .string xf, .string xw, .int .i64 xo, .int .i64 xp, .slice eA en ec, .slice pA pn pc, .bool xg, .slice aA an ac] 36)) #[.string yn, .string yf, .string yw, .int .i64 yo, .int .i64 yp, .slice fA fn fc, .slice qA qn qc, .bool yg, .slice bA bn bc] 36
  simpa using this)
 have Hb0 : Hid (Below w.heap.size w W) := Lib.hid (by rw [← hW]; exact (below_one w _).alloc (by simp) _)
 have HWe := Lib.hid hW
 clear hW
 by_cases h1 : xn = yn
 case neg =>
  have n1 : ¬ xn.toList = yn.toList := fun h => h1 (toList_inj h)
  have hRf : R = false := by
   rw [HR.out]
   simp [h1]
  subst hRf
  clear HR HE HP HA HX HY h1
  go_enter Tryz.func134, Tryz.ntmps134
  go_wp2
  go_ret
  rw [HWe.out]
  exact ⟨rfl, Hb0.out⟩
 subst h1
 by_cases h2 : xf = yf
 case neg =>
  have n1 : ¬ xf.toList = yf.toList := fun h => h2 (toList_inj h)
  have hRf : R = false := by
   rw [HR.out]
   simp [h2]
  subst hRf
  clear HR HE HP HA HX HY h2
  go_enter Tryz.func134, Tryz.ntmps134
  go_wp2
  go_ret
  rw [HWe.out]
  exact ⟨rfl, Hb0.out⟩
 subst h2
 by_cases h3 : xw = yw
 case neg =>
  have n1 : ¬ xw.toList = yw.toList := fun h => h3 (toList_inj h)
  have hRf : R = false := by
   rw [HR.out]
   simp [h3]
  subst hRf
  clear HR HE HP HA HX HY h3
  go_enter Tryz.func134, Tryz.ntmps134
  go_wp2
  go_ret
  rw [HWe.out]
  exact ⟨rfl, Hb0.out⟩
 subst h3
 cases h4 : onB xo xp yo yp
 case false =>
  have hRf : R = false := by
   rw [HR.out]
   simp [h4]
  subst hRf
  clear HR HE HP HA HX HY
  go_enter Tryz.func134, Tryz.ntmps134
  go_wp2
  go_ret
  rw [HWe.out]
  exact ⟨rfl, Hb0.out⟩
 have HR2 : Hid ((Z1 && (Z2 && (decide (xg = yg) && Z3))) = R) := Lib.hid (by rw [HR.out, h4]; simp)
 clear HR
 go_enter Tryz.func134, Tryz.ntmps134
 go_wp2_with fail
 rw [HWe.out]
 refine (HE.out W Hb0.out).mono ?_
 rintro e w1 ⟨rfl, hb1⟩
 have Hb1 := Lib.hid hb1
 clear hb1
 cases Z1
 · obtain rfl : false = R := HR2.out
   clear HR2 HE HP HA HX HY
   go_wp2
   go_ret
   exact ⟨rfl, below_via Hb0.out Hb1.out⟩
 · have HR3 : Hid ((Z2 && (decide (xg = yg) && Z3)) = R) := HR2
   have kx := Bk.after HX.out Hb1.out (by have := HX.out.lt; have := Hb1.out.size; omega)
   have ky := Bk.after HY.out Hb1.out (by have := HY.out.lt; have := Hb1.out.size; omega)
   have x0 : w1.cell? ⟨w.heap.size, 0, none⟩ = some (.string xn) := kx.cell 0
   have x1 : w1.cell? ⟨w.heap.size, 1, none⟩ = some (.string xf) := kx.cell 1
   have x2 : w1.cell? ⟨w.heap.size, 2, none⟩ = some (.string xw) := kx.cell 2
   have x3 : w1.cell? ⟨w.heap.size, 3, none⟩ = some (.int .i64 xo) := kx.cell 3
   have x4 : w1.cell? ⟨w.heap.size, 4, none⟩ = some (.int .i64 xp) := kx.cell 4
   have x5 : w1.cell? ⟨w.heap.size, 5, none⟩ = some (.slice eA en ec) := kx.cell 5
   have x6 : w1.cell? ⟨w.heap.size, 6, none⟩ = some (.slice pA pn pc) := kx.cell 6
   have x7 : w1.cell? ⟨w.heap.size, 7, none⟩ = some (.bool xg) := kx.cell 7
   have x8 : w1.cell? ⟨w.heap.size, 8, none⟩ = some (.slice aA an ac) := kx.cell 8
   have y0 : w1.cell? ⟨w.heap.size + 1, 0, none⟩ = some (.string xn) := ky.cell 0
   have y1 : w1.cell? ⟨w.heap.size + 1, 1, none⟩ = some (.string xf) := ky.cell 1
   have y2 : w1.cell? ⟨w.heap.size + 1, 2, none⟩ = some (.string xw) := ky.cell 2
   have y3 : w1.cell? ⟨w.heap.size + 1, 3, none⟩ = some (.int .i64 yo) := ky.cell 3
   have y4 : w1.cell? ⟨w.heap.size + 1, 4, none⟩ = some (.int .i64 yp) := ky.cell 4
   have y5 : w1.cell? ⟨w.heap.size + 1, 5, none⟩ = some (.slice fA fn fc) := ky.cell 5
   have y6 : w1.cell? ⟨w.heap.size + 1, 6, none⟩ = some (.slice qA qn qc) := ky.cell 6
   have y7 : w1.cell? ⟨w.heap.size + 1, 7, none⟩ = some (.bool yg) := ky.cell 7
   have y8 : w1.cell? ⟨w.heap.size + 1, 8, none⟩ = some (.slice bA bn bc) := ky.cell 8
   have kxl := kx.lt
   have kyl := ky.lt
   clear kx ky
   clear HR2 HE
   go_wp2_with fail
   refine (HP.out w1 (below_via Hb0.out Hb1.out)).mono ?_
   rintro e w2 ⟨rfl, hb2⟩
   have Hb2 := Lib.hid (below_via Hb1.out hb2)
   clear x0 x1 x2 x3 x4 x5 x6 x7 x8 y0 y1 y2 y3 y4 y5 y6 y7 y8 kxl kyl
   clear hb2 HP Hb1
   cases Z2
   · obtain rfl : false = R := HR3.out
     clear HR3 HA HX HY
     go_wp2
     go_ret
     exact ⟨rfl, below_via Hb0.out Hb2.out⟩
   · have HR4 : Hid ((decide (xg = yg) && Z3) = R) := HR3
     have kx := Bk.after HX.out Hb2.out (by have := HX.out.lt; have := Hb2.out.size; omega)
     have ky := Bk.after HY.out Hb2.out (by have := HY.out.lt; have := Hb2.out.size; omega)
     have x0 : w2.cell? ⟨w.heap.size, 0, none⟩ = some (.string xn) := kx.cell 0
     have x1 : w2.cell? ⟨w.heap.size, 1, none⟩ = some (.string xf) := kx.cell 1
     have x2 : w2.cell? ⟨w.heap.size, 2, none⟩ = some (.string xw) := kx.cell 2
     have x3 : w2.cell? ⟨w.heap.size, 3, none⟩ = some (.int .i64 xo) := kx.cell 3
     have x4 : w2.cell? ⟨w.heap.size, 4, none⟩ = some (.int .i64 xp) := kx.cell 4
     have x5 : w2.cell? ⟨w.heap.size, 5, none⟩ = some (.slice eA en ec) := kx.cell 5
     have x6 : w2.cell? ⟨w.heap.size, 6, none⟩ = some (.slice pA pn pc) := kx.cell 6
     have x7 : w2.cell? ⟨w.heap.size, 7, none⟩ = some (.bool xg) := kx.cell 7
     have x8 : w2.cell? ⟨w.heap.size, 8, none⟩ = some (.slice aA an ac) := kx.cell 8
     have y0 : w2.cell? ⟨w.heap.size + 1, 0, none⟩ = some (.string xn) := ky.cell 0
     have y1 : w2.cell? ⟨w.heap.size + 1, 1, none⟩ = some (.string xf) := ky.cell 1
     have y2 : w2.cell? ⟨w.heap.size + 1, 2, none⟩ = some (.string xw) := ky.cell 2
     have y3 : w2.cell? ⟨w.heap.size + 1, 3, none⟩ = some (.int .i64 yo) := ky.cell 3
     have y4 : w2.cell? ⟨w.heap.size + 1, 4, none⟩ = some (.int .i64 yp) := ky.cell 4
     have y5 : w2.cell? ⟨w.heap.size + 1, 5, none⟩ = some (.slice fA fn fc) := ky.cell 5
     have y6 : w2.cell? ⟨w.heap.size + 1, 6, none⟩ = some (.slice qA qn qc) := ky.cell 6
     have y7 : w2.cell? ⟨w.heap.size + 1, 7, none⟩ = some (.bool yg) := ky.cell 7
     have y8 : w2.cell? ⟨w.heap.size + 1, 8, none⟩ = some (.slice bA bn bc) := ky.cell 8
     have kxl := kx.lt
     have kyl := ky.lt
     clear kx ky
     clear HR3
     by_cases h7 : xg = yg
     case neg =>
      obtain rfl : false = R := by rw [← HR4.out, decide_eq_false h7]; rfl
      clear HR4 HA HX HY
      have hyg : yg = !xg := by cases xg <;> cases yg <;> simp_all
      clear h7
      subst hyg
      cases xg <;> (simp only [Bool.not_true, Bool.not_false] at y7; go_wp2; go_ret; exact ⟨rfl, below_via Hb0.out Hb2.out⟩)
     subst h7
     obtain rfl : Z3 = R := by rw [← HR4.out]; simp
     clear HR4 HX HY
     cases xg
     all_goals
      go_wp2_with fail
      refine (HA.out w2 (below_via Hb0.out Hb2.out)).mono ?_
      rintro e w3 ⟨rfl, hb3⟩
      have Hb3 := Lib.hid (below_via Hb2.out hb3)
      clear x0 x1 x2 x3 x4 x5 x6 x7 x8 y0 y1 y2 y3 y4 y5 y6 y7 y8 kxl kyl
      clear hb3 HA Hb2
      cases Z3
      all_goals
       go_wp2
       go_ret
       exact ⟨rfl, below_via Hb0.out Hb3.out⟩
set_option maxHeartbeats 8000000 in
theorem smD_c (x y : Dm) (w : World) (hx : x.In w) (hy : y.In w) :
 Calls Tryz.prog 115 #[x.w, y.w] w fun e w' => e = .returned (.bool (decide (x.df = y.df))) ∧ Below w.heap.size w w' := by
 obtain ⟨xk, xt, xv⟩ := x
 obtain ⟨yk, yt, yv⟩ := y
 have HT := Lib.hid (fun u (h : Below w.heap.size w u) => smTb_c xt yt u (hx.t.after h) (hy.t.after h))
 have HV := Lib.hid (fun u (h : Below w.heap.size w u) => smVw_c xv yv u (hx.v.after h) (hy.v.after h))
 obtain ⟨R, hR⟩ : ∃ R, decide ((⟨xk, xt, xv⟩ : Dm).df = (⟨yk, yt, yv⟩ : Dm).df) = R := ⟨_, rfl⟩
 rw [hR]
 obtain ⟨Z1, hZ1⟩ : ∃ Z, decide (xt.tb = yt.tb) = Z := ⟨_, rfl⟩
 obtain ⟨Z2, hZ2⟩ : ∃ Z, decide (xv.vw = yv.vw) = Z := ⟨_, rfl⟩
 have hR2 : R = (decide (xk = yk) && (Z1 && Z2)) := by
  rw [← hR, ← hZ1, ← hZ2, Bool.eq_iff_iff]
  simp [Dm.df]
 have HR := Lib.hid hR2
 rw [hZ1] at HT
 rw [hZ2] at HV
 clear hR hR2 hZ1 hZ2 hx hy
 obtain ⟨W, hW⟩ : ∃ W, ((w.alloc (.cells #[.int .i64 xk, .string xt.name, .slice xt.cols.A xt.cols.n xt.cols.c, .slice xt.chks.A xt.chks.n xt.chks.c, .string xv.name, .string xv.frm, .string xv.wth, .int .i64 xv.on0, .int .i64 xv.on1, .slice xv.whr.A xv.whr.n xv.whr.c, .slice xv.pick.A xv.pick.n xv.pick.c, .bool xv.grp, .slice xv.aggs.A xv.aggs.n xv.aggs.c] 38)).alloc (.cells #[.int .i64 yk, .string yt.name, .slice yt.cols.A yt.cols.n yt.cols.c, .slice yt.chks.A yt.chks.n yt.chks.c, .string yv.name, .string yv.frm, .string yv.wth, .int .i64 yv.on0, .int .i64 yv.on1, .slice yv.whr.A yv.whr.n yv.whr.c, .slice yv.pick.A yv.pick.n yv.pick.c, .bool yv.grp, .slice yv.aggs.A yv.aggs.n yv.aggs.c] 38)) = W := ⟨_, rfl⟩
 have HX : Hid (Bk W w.heap.size #[.int .i64 xk, .string xt.name, .slice xt.cols.A xt.cols.n xt.cols.c, .slice xt.chks.A xt.chks.n xt.chks.c, .string xv.name, .string xv.frm, .string xv.wth, .int .i64 xv.on0, .int .i64 xv.on1, .slice xv.whr.A xv.whr.n xv.whr.c, .slice xv.pick.A xv.pick.n xv.pick.c, .bool xv.grp, .slice xv.aggs.A xv.aggs.n xv.aggs.c] 38) := Lib.hid (by rw [← hW]; exact (Bk.new w _ _).after (below_one _ _) (by simp))
 have HY : Hid (Bk W (w.heap.size + 1) #[.int .i64 yk, .string yt.name, .slice yt.cols.A yt.cols.n yt.cols.c, .slice yt.chks.A yt.chks.n yt.chks.c, .string yv.name, .string yv.frm, .string yv.wth, .int .i64 yv.on0, .int .i64 yv.on1, .slice yv.whr.A yv.whr.n yv.whr.c, .slice yv.pick.A yv.pick.n yv.pick.c, .bool yv.grp, .slice yv.aggs.A yv.aggs.n yv.aggs.c] 38) := Lib.hid (by
  rw [← hW]
  have := Bk.new (w.alloc (.cells #[.int .i64 xk, .string xt.name, .slice xt.cols.A xt.cols.n xt.cols.c, .slice xt.chks.A xt.chks.n xt.chks.c, .string xv.name, .string xv.frm, .string xv.wth, .int .i64 xv.on0, .int .i64 xv.on1, .slice xv.whr.A xv.whr.n xv.whr.c, .slice xv.pick.A xv.pick.n xv.pick.c, .bool xv.grp, .slice xv.aggs.A xv.aggs.n xv.aggs.c] 38)) #[.int .i64 yk, .string yt.name, .slice yt.cols.A yt.cols.n yt.cols.c, .slice yt.chks.A yt.chks.n yt.chks.c, .string yv.name, .string yv.frm, .string yv.wth, .int .i64 yv.on0, .int .i64 yv.on1, .slice yv.whr.A yv.whr.n yv.whr.c, .slice yv.pick.A yv.pick.n yv.pick.c, .bool yv.grp, .slice yv.aggs.A yv.aggs.n yv.aggs.c] 38
  simpa using this)
 have Hb0 : Hid (Below w.heap.size w W) := Lib.hid (by rw [← hW]; exact (below_one w _).alloc (by simp) _)
 have HWe := Lib.hid hW
 clear hW
 by_cases h1 : xk = yk
 case neg =>
  have hRf : R = false := by
   rw [HR.out]
   simp [h1]
  subst hRf
  clear HR HT HV HX HY
  go_enter Tryz.func115, Tryz.ntmps115
  go_wp2
  go_ret
  rw [HWe.out]
  exact ⟨rfl, Hb0.out⟩
 subst h1
 have HR2 : Hid ((Z1 && Z2) = R) := Lib.hid (by rw [HR.out]; simp)
 clear HR
 go_enter Tryz.func115, Tryz.ntmps115
 go_wp2_with fail
 rw [HWe.out]
 refine (HT.out W Hb0.out).mono ?_
 rintro e w1 ⟨rfl, hb1⟩
 have Hb1 := Lib.hid hb1
 clear hb1
 cases Z1
 · obtain rfl : false = R := HR2.out
   clear HR2 HT HV HX HY
   go_wp2
   go_ret
   exact ⟨rfl, below_via Hb0.out Hb1.out⟩
 · obtain rfl : Z2 = R := HR2.out
   have kx := Bk.after HX.out Hb1.out (by have := HX.out.lt; have := Hb1.out.size; omega)
   have ky := Bk.after HY.out Hb1.out (by have := HY.out.lt; have := Hb1.out.size; omega)
   have x0 : w1.cell? ⟨w.heap.size, 0, none⟩ = some (.int .i64 xk) := kx.cell 0
   have x1 : w1.cell? ⟨w.heap.size, 1, none⟩ = some (.string xt.name) := kx.cell 1
   have x2 : w1.cell? ⟨w.heap.size, 2, none⟩ = some (.slice xt.cols.A xt.cols.n xt.cols.c) := kx.cell 2
   have x3 : w1.cell? ⟨w.heap.size, 3, none⟩ = some (.slice xt.chks.A xt.chks.n xt.chks.c) := kx.cell 3
   have x4 : w1.cell? ⟨w.heap.size, 4, none⟩ = some (.string xv.name) := kx.cell 4
   have x5 : w1.cell? ⟨w.heap.size, 5, none⟩ = some (.string xv.frm) := kx.cell 5
   have x6 : w1.cell? ⟨w.heap.size, 6, none⟩ = some (.string xv.wth) := kx.cell 6
   have x7 : w1.cell? ⟨w.heap.size, 7, none⟩ = some (.int .i64 xv.on0) := kx.cell 7
   have x8 : w1.cell? ⟨w.heap.size, 8, none⟩ = some (.int .i64 xv.on1) := kx.cell 8
   have x9 : w1.cell? ⟨w.heap.size, 9, none⟩ = some (.slice xv.whr.A xv.whr.n xv.whr.c) := kx.cell 9
   have x10 : w1.cell? ⟨w.heap.size, 10, none⟩ = some (.slice xv.pick.A xv.pick.n xv.pick.c) := kx.cell 10
   have x11 : w1.cell? ⟨w.heap.size, 11, none⟩ = some (.bool xv.grp) := kx.cell 11
   have x12 : w1.cell? ⟨w.heap.size, 12, none⟩ = some (.slice xv.aggs.A xv.aggs.n xv.aggs.c) := kx.cell 12
   have y0 : w1.cell? ⟨w.heap.size + 1, 0, none⟩ = some (.int .i64 xk) := ky.cell 0
   have y1 : w1.cell? ⟨w.heap.size + 1, 1, none⟩ = some (.string yt.name) := ky.cell 1
   have y2 : w1.cell? ⟨w.heap.size + 1, 2, none⟩ = some (.slice yt.cols.A yt.cols.n yt.cols.c) := ky.cell 2
   have y3 : w1.cell? ⟨w.heap.size + 1, 3, none⟩ = some (.slice yt.chks.A yt.chks.n yt.chks.c) := ky.cell 3
   have y4 : w1.cell? ⟨w.heap.size + 1, 4, none⟩ = some (.string yv.name) := ky.cell 4
   have y5 : w1.cell? ⟨w.heap.size + 1, 5, none⟩ = some (.string yv.frm) := ky.cell 5
   have y6 : w1.cell? ⟨w.heap.size + 1, 6, none⟩ = some (.string yv.wth) := ky.cell 6
   have y7 : w1.cell? ⟨w.heap.size + 1, 7, none⟩ = some (.int .i64 yv.on0) := ky.cell 7
   have y8 : w1.cell? ⟨w.heap.size + 1, 8, none⟩ = some (.int .i64 yv.on1) := ky.cell 8
   have y9 : w1.cell? ⟨w.heap.size + 1, 9, none⟩ = some (.slice yv.whr.A yv.whr.n yv.whr.c) := ky.cell 9
   have y10 : w1.cell? ⟨w.heap.size + 1, 10, none⟩ = some (.slice yv.pick.A yv.pick.n yv.pick.c) := ky.cell 10
   have y11 : w1.cell? ⟨w.heap.size + 1, 11, none⟩ = some (.bool yv.grp) := ky.cell 11
   have y12 : w1.cell? ⟨w.heap.size + 1, 12, none⟩ = some (.slice yv.aggs.A yv.aggs.n yv.aggs.c) := ky.cell 12
   have kxl := kx.lt
   have kyl := ky.lt
   clear kx ky
   clear HR2 HT HX HY
   go_wp2_with fail
   refine (HV.out w1 (below_via Hb0.out Hb1.out)).mono ?_
   rintro e w2 ⟨rfl, hb2⟩
   have Hb2 := Lib.hid (below_via Hb1.out hb2)
   clear x0 x1 x2 x3 x4 x5 x6 x7 x8 x9 x10 x11 x12 y0 y1 y2 y3 y4 y5 y6 y7 y8 y9 y10 y11 y12 kxl kyl
   clear hb2 HV
   cases Z2
   all_goals
    go_wp2
    go_ret
    exact ⟨rfl, below_via Hb0.out Hb2.out⟩
end
end Go.Proofs.YtamekagminbejaaGreatDoor
namespace Go.Proofs.YtamekagminbejaaGreatDoor
open Go Go.RowKit
set_option maxRecDepth 100000
theorem parse_alt (l : List UInt8) (w : World) (hl : l.length ≤ 20000) (hG : GL w) :
 Calls Tryz.prog 116 #[.string (ba l)] w fun e w' => (∃ n, e = .panicked (boom n) ∧ readD l = none ∧ Below w.heap.size w w') ∨ (∃ x : Dm, e = .returned x.w ∧ readD l = some x.df ∧ x.In w' ∧ Below w.heap.size w w') := by
 refine (parse_c l w (Nat.le_trans hl (by decide)) hG).mono ?_
 rintro e w' h
 unfold ParseS at h
 have hO : lexO l = lexL l := by unfold lexO; rw [if_pos hl]
 unfold readD
 rw [hO] at h
 cases hq : lexL l with
 | none => rw [hq] at h; exact .inl ⟨60, h.1, rfl, h.2⟩
 | some ts =>
   rw [hq] at h
   simp only [Option.bind_some]
   cases hp : parseD ts with
   | none => simp only [hp] at h; exact .inl ⟨70, h.1, rfl, h.2⟩
   | some d =>
     simp only [hp] at h
     obtain ⟨x, h1, h2, h3, h4, h5⟩ := h
     exact .inr ⟨x, h1, by rw [h4], h2, h5⟩
def WrtS (d : Df) (w : World) (e : Ending) (w' : World) : Prop := Below w.heap.size w w' ∧ ((∃ n, e = .panicked (boom n) ∧ PrT d []) ∨ (∃ l, e = .returned (.string (ba l)) ∧ PrT d l ∧ l ≠ [] ∧ l.length ≤ 20000))
theorem Gw.up {B C : Nat} {w : World} (h : Gw B w) (hc : B ≤ C) : Gw C w := ⟨h.gl, h.op, h.lt.le hc, Nat.lt_of_lt_of_le h.o hc⟩
set_option maxHeartbeats 8000000 in
theorem written_c (d : Dm) (w : World) (hG : Gw w.heap.size w) (hd : d.In w) (hok : DfOk d.df) :
 Calls Tryz.prog 92 #[d.w] w fun e w' => WrtS d.df w e w' := by
 obtain ⟨S, hS⟩ : ∃ S, WrtS d.df w = S := ⟨_, rfl⟩
 rw [hS]
 obtain ⟨dv, hdv⟩ : ∃ dv : Value, dv = d.w := ⟨_, rfl⟩
 obtain ⟨W, hW⟩ : ∃ W, (w.alloc (.cells d.cl.toArray 38)).alloc (.cells #[.pointer none, .slice none 0 0] 168) = W := ⟨_, rfl⟩
 have hz : W.heap.size = w.heap.size + 2 := by rw [← hW]; simp
 have HbW : Hid (Below w.heap.size w W) := Lib.hid (by rw [← hW]; exact (below_one w _).alloc (by simp) _)
 have HD : Hid (BkD W w.heap.size d) := Lib.hid (by rw [← hW]; exact (Bk.new w _ _).alloc _)
 have HR : Hid (Wr W (w.heap.size + 1) (w.heap.size + 1) []) := Lib.hid (by
  rw [← hW]
  refine .inl ⟨Nat.le_refl _, .slice none 0 0, ?_, Buf.nil _ _, by simp [Value.ownBlock]⟩
  have := Bk.new (w.alloc (.cells d.cl.toArray 38)) #[.pointer none, .slice none 0 0] 168
  simpa using this)
 have HGW : Hid (Gw (w.heap.size + 1) W) := Lib.hid ((hG.below HbW.out).up (Nat.le_succ _))
 have HDef := Lib.hid (def_w (w.heap.size + 1) (w.heap.size + 1) [] d W HR.out (by simp) HGW.out (fun u hu => hd.after (HbW.out.trans (hu.mono (by omega)))) hok)
 have HW : Hid ((w.alloc (.cells #[.int .i64 d.k, .string d.t.name, .slice d.t.cols.A d.t.cols.n d.t.cols.c, .slice d.t.chks.A d.t.chks.n d.t.chks.c, .string d.v.name, .string d.v.frm, .string d.v.wth, .int .i64 d.v.on0, .int .i64 d.v.on1, .slice d.v.whr.A d.v.whr.n d.v.whr.c, .slice d.v.pick.A d.v.pick.n d.v.pick.c, .bool d.v.grp, .slice d.v.aggs.A d.v.aggs.n d.v.aggs.c] 38)).alloc (.cells #[.pointer none, .slice none 0 0] 168) = W) := hW
 have HS := Lib.hid hS
 have Hd := Lib.hid hd
 have Hok := Lib.hid hok
 obtain ⟨c0, c1, c2, c3, c4, c5, c6, c7, c8, c9, c10, c11, c12, hlX⟩ := HD.out.all
 clear hS hW hG hd hok
 go_enter Tryz.func92, Tryz.ntmps92
 go_wp2_with fail
 rw [HW.out]
 refine HDef.out.mono ?_
 rintro e w1 hs
 rcases WS.yes (Wk.refl _ _ _) hs with ⟨rfl, h1, h2⟩ | ⟨rfl, l, h1, h2, h3, h4⟩
 · refine ⟨rfl, ?_⟩
   have h1 : wrO d.df = none := h1
   rw [← HS.out]
   exact ⟨HbW.out.trans (h2.below.mono (by omega)), .inl ⟨70, rfl, wr_no Hok.out.d64 fun l hl => by rw [h1] at hl; cases hl⟩⟩
 · have h1 : wrO d.df = some l := h1
   have Hne := Lib.hid (wr_ne h1)
   have H1 := Lib.hid h1
   have H3 := Lib.hid h3
   have HT := Lib.hid (wtext_c _ _ l w1 h2 Hne.out h3)
   have HB1 : Hid (Below w.heap.size w w1) := Lib.hid (HbW.out.trans (h4.below.mono (by omega)))
   have HD1 : Hid (BkD w1 w.heap.size d) := Lib.hid (h4.bk HD.out (by omega) (by decide))
   have HG1 := Lib.hid (HGW.out.below h4.below)
   have hlD := HD1.out.lt
   clear h1 h2 h3 h4 hs c0 c1 c2 c3 c4 c5 c6 c7 c8 c9 c10 c11 c12 hlX HDef HR
   go_wp2_with fail
   refine HT.out.mono ?_
   rintro e w2 ⟨rfl, hb2⟩
   have HB2 : Hid (Below w.heap.size w w2) := Lib.hid (HB1.out.trans (hb2.mono (by omega)))
   have HD2 : Hid (BkD w2 w.heap.size d) := Lib.hid (Bk.after HD1.out hb2 (by omega))
   have HG2 := Lib.hid (HG1.out.below hb2)
   have hl2 := HD2.out.lt
   have HP := Lib.hid (parse_alt l w2.drew H3.out (HG2.out.below (Below.refl _ _).drew).gl)
   have HSt : Hid (∀ w', Below w2.heap.size w2 w' → (w'.cell? ⟨w.heap.size, 0, none⟩ = some (.int .i64 d.k) ∧ w'.cell? ⟨w.heap.size, 1, none⟩ = some (.string d.t.name) ∧ w'.cell? ⟨w.heap.size, 2, none⟩ = some (.slice d.t.cols.A d.t.cols.n d.t.cols.c) ∧ w'.cell? ⟨w.heap.size, 3, none⟩ = some (.slice d.t.chks.A d.t.chks.n d.t.chks.c) ∧ w'.cell? ⟨w.heap.size, 4, none⟩ = some (.string d.v.name) ∧ w'.cell? ⟨w.heap.size, 5, none⟩ = some (.string d.v.frm) ∧ w'.cell? ⟨w.heap.size, 6, none⟩ = some (.string d.v.wth) ∧ w'.cell? ⟨w.heap.size, 7, none⟩ = some (.int .i64 d.v.on0) ∧ w'.cell? ⟨w.heap.size, 8, none⟩ = some (.int .i64 d.v.on1) ∧ w'.cell? ⟨w.heap.size, 9, none⟩ = some (.slice d.v.whr.A d.v.whr.n d.v.whr.c) ∧ w'.cell? ⟨w.heap.size, 10, none⟩ = some (.slice d.v.pick.A d.v.pick.n d.v.pick.c) ∧ w'.cell? ⟨w.heap.size, 11, none⟩ = some (.bool d.v.grp) ∧ w'.cell? ⟨w.heap.size, 12, none⟩ = some (.slice d.v.aggs.A d.v.aggs.n d.v.aggs.c))) := Lib.hid fun w' hb => by
    have hk : BkD w' w.heap.size d := Bk.after HD2.out hb hl2
    exact ⟨hk.cell 0, hk.cell 1, hk.cell 2, hk.cell 3, hk.cell 4, hk.cell 5, hk.cell 6, hk.cell 7, hk.cell 8, hk.cell 9, hk.cell 10, hk.cell 11, hk.cell 12⟩
   obtain ⟨c0, c1, c2, c3, c4, c5, c6, c7, c8, c9, c10, c11, c12⟩ := HSt.out w2 (Below.refl _ _)
   clear hb2 HT HB1 HD1 HG1 hlD
   go_wp2_with fail
   go_region_held2 (fun w' => w'.cell? ⟨w.heap.size, 0, none⟩ = some (.int .i64 d.k) ∧ w'.cell? ⟨w.heap.size, 1, none⟩ = some (.string d.t.name) ∧ w'.cell? ⟨w.heap.size, 2, none⟩ = some (.slice d.t.cols.A d.t.cols.n d.t.cols.c) ∧ w'.cell? ⟨w.heap.size, 3, none⟩ = some (.slice d.t.chks.A d.t.chks.n d.t.chks.c) ∧ w'.cell? ⟨w.heap.size, 4, none⟩ = some (.string d.v.name) ∧ w'.cell? ⟨w.heap.size, 5, none⟩ = some (.string d.v.frm) ∧ w'.cell? ⟨w.heap.size, 6, none⟩ = some (.string d.v.wth) ∧ w'.cell? ⟨w.heap.size, 7, none⟩ = some (.int .i64 d.v.on0) ∧ w'.cell? ⟨w.heap.size, 8, none⟩ = some (.int .i64 d.v.on1) ∧ w'.cell? ⟨w.heap.size, 9, none⟩ = some (.slice d.v.whr.A d.v.whr.n d.v.whr.c) ∧ w'.cell? ⟨w.heap.size, 10, none⟩ = some (.slice d.v.pick.A d.v.pick.n d.v.pick.c) ∧ w'.cell? ⟨w.heap.size, 11, none⟩ = some (.bool d.v.grp) ∧ w'.cell? ⟨w.heap.size, 12, none⟩ = some (.slice d.v.aggs.A d.v.aggs.n d.v.aggs.c))
    (first
      | exact HSt.out _ HbS.out
      | go_keep)
    (first
      | (go_at_call 116
         with_reducible refine HP.out.mono ?_
         rintro e w3 (⟨n, rfl, hr, hb⟩ | ⟨x, rfl, hr, hi, hb⟩)
         · refine ⟨rfl, ?_⟩
           rw [← HS.out]
           exact ⟨HB2.out.trans ((below_via (Below.refl w2.heap.size w2).drew hb).mono HB2.out.size), .inl ⟨n, rfl, wr_no Hok.out.d64 fun l' hl => by rw [H1.out] at hl; rw [← Option.some.inj hl, hr]; simp⟩⟩
         have HbS : Hid (Below w2.heap.size w2 w3) := Lib.hid (below_via (Below.refl w2.heap.size w2).drew hb)
         have HRd := Lib.hid hr
         have HSm := Lib.hid (smD_c x d w3 hi (Hd.out.after (HB2.out.trans (HbS.out.mono HB2.out.size))))
         clear hb hi hr HP)
      | (go_at_call 115
         with_reducible refine HSm.out.mono ?_
         rintro e w4 ⟨rfl, hb4⟩
         have HbT : Hid (Below w2.heap.size w2 w4) := Lib.hid (below_via HbS.out hb4)
         clear HbS HSm hb4
         have HbS := HbT
         clear HbT
         obtain ⟨D, hD⟩ : ∃ D, decide (x.df = d.df) = D := ⟨_, rfl⟩
         rw [hD]
         have HDd := Lib.hid hD
         clear hD)
      | (go_at_call 114
         refine (req_c D w4).mono ?_
         rintro e w5 ⟨he, rfl⟩
         cases D
         · obtain rfl : e = .panicked (boom 70) := he
           refine ⟨rfl, ?_⟩
           rw [← HS.out]
           exact ⟨HB2.out.trans (HbS.out.mono HB2.out.size), .inl ⟨70, rfl, wr_no Hok.out.d64 fun l' hl => by rw [H1.out] at hl; rw [← Option.some.inj hl, HRd.out]; intro h; exact absurd (Option.some.inj h) (of_decide_eq_false HDd.out)⟩⟩
         obtain rfl : e = .returned (.tuple #[]) := he))
   all_goals
    have HF : Hid (WrtS d.df w (.returned (.string (ba l))) w5) := Lib.hid ⟨HB2.out.trans (HbS.out.mono HB2.out.size), .inr ⟨l, rfl, wr_yes H1.out (by rw [HRd.out, of_decide_eq_true HDd.out]), Hne.out, H3.out⟩⟩
    clear c0 c1 c2 c3 c4 c5 c6 c7 c8 c9 c10 c11 c12 HSt HbS
    go_wp2
    show S (.returned (.string (ba l))) w5
    rw [← HS.out]
    exact HF.out
def PrtR (d : Df) (b : Nat) (w w' : World) : Prop := ∃ t, PrT d t ∧ t.length ≤ 20000 ∧ Bk w' b #[.string (ba t)] 9 ∧ Apb b w w'
set_option maxHeartbeats 4000000 in
theorem prt1_c (d : Dm) (D bs : Nat) (w : World) (hG : Gw w.heap.size w) (hd : d.In w) (hok : DfOk d.df) (hD : BkD w D d) (hs : Bk w bs #[.string emp] 9) :
 Calls Tryz.prog 91 #[.pointer (some ⟨D, 0, none⟩), .pointer (some ⟨bs, 0, none⟩)] w fun e w' => (e = .returned (.tuple #[]) ∧ PrtR d.df bs w w') ∨ (∃ n, e = .panicked (boom n) ∧ PrtR d.df bs w w') := by
 obtain ⟨Q, hQ⟩ : ∃ Q : Ending → World → Prop, (fun e w' => (e = .returned (.tuple #[]) ∧ PrtR d.df bs w w') ∨ (∃ n, e = .panicked (boom n) ∧ PrtR d.df bs w w')) = Q := ⟨_, rfl⟩
 have HQ := Lib.hid hQ
 show Calls _ _ _ _ (fun e w' => (fun e w' => (e = .returned (.tuple #[]) ∧ PrtR d.df bs w w') ∨ (∃ n, e = .panicked (boom n) ∧ PrtR d.df bs w w')) e w')
 rw [hQ]
 have HW := Lib.hid (written_c d w hG hd hok)
 have HS := Lib.hid hs
 have hls := hs.lt
 obtain ⟨c0, c1, c2, c3, c4, c5, c6, c7, c8, c9, c10, c11, c12, hlX⟩ := hD.all
 clear hG hd hok hD hs hQ
 go_enter Tryz.func91, Tryz.ntmps91
 go_wp2_with fail
 refine HW.out.mono ?_
 rintro e w1 ⟨hb, ⟨n, rfl, hp⟩ | ⟨l, rfl, hp, hne, hl⟩⟩
 · refine ⟨rfl, ?_⟩
   rw [← HQ.out]
   exact .inr ⟨n, rfl, [], hp, Nat.zero_le _, Bk.after HS.out hb hls, (Apb.refl bs w).then hb (Nat.le_refl _)⟩
 · have hk : Bk w1 bs #[.string emp] 9 := Bk.after HS.out hb hls
   have Hk := Lib.hid hk
   have k0 : w1.cell? ⟨bs, 0, none⟩ = some (.string emp) := hk.cell 0
   have f0 := hk.thaw 0
   have HP := Lib.hid hp
   have HL := Lib.hid hl
   have HA : Hid (Apb bs w w1) := Lib.hid ((Apb.refl bs w).then hb (Nat.le_refl _))
   clear hk hb hp hne hl HW HS c0 c1 c2 c3 c4 c5 c6 c7 c8 c9 c10 c11 c12
   go_wp2
   go_end0
   rw [← HQ.out]
   exact .inl ⟨rfl, l, HP.out, HL.out, Hk.out.set 0 _, HA.out.set 0 _⟩
set_option maxHeartbeats 4000000 in
theorem dprint_c (d : Dm) (w : World) (hG : Gw w.heap.size w) (hd : d.In w) (hok : DfOk d.df) :
 Calls Tryz.prog 56 #[d.w] w fun e w' => ∃ t, e = .returned (.string (ba t)) ∧ PrT d.df t ∧ t.length ≤ 20000 ∧ Below w.heap.size w w' := by
 obtain ⟨W, hW⟩ : ∃ W, (w.alloc (.cells d.cl.toArray 38)).alloc (.cells #[.string emp] 9) = W := ⟨_, rfl⟩
 have hz : W.heap.size = w.heap.size + 2 := by rw [← hW]; simp
 have hbW : Below w.heap.size w W := by rw [← hW]; exact (below_one w _).alloc (by simp) _
 have HBd : Hid (BkD W w.heap.size d) := Lib.hid (by rw [← hW]; exact (Bk.new w _ _).alloc _)
 have HBs : Hid (Bk W (w.heap.size + 1) #[.string emp] 9) := Lib.hid (by
  rw [← hW]
  have := Bk.new (w.alloc (.cells d.cl.toArray 38)) #[.string emp] 9
  simpa using this)
 have hzW : (W.alloc (.cells #[.int .i64 0] 48)).heap.size = w.heap.size + 3 := by simp; omega
 have hb1 := below_one W (.cells #[.int .i64 0] 48)
 have HA := Lib.hid (attempt_c 91 #[.pointer (some ⟨w.heap.size, 0, none⟩), .pointer (some ⟨w.heap.size + 1, 0, none⟩)] (fun u => by kernel_rfl) (fun n w' => PrtR d.df (w.heap.size + 1) (W.alloc (.cells #[.int .i64 0] 48)) w') W (by
  refine (prt1_c d w.heap.size (w.heap.size + 1) _ (((hG.below hbW).below (hb1.mono (by omega))).up (by omega)) (hd.after (hbW.trans (hb1.mono (by omega)))) hok (Bk.after HBd.out hb1 (by omega)) (Bk.after HBs.out hb1 (by omega))).mono ?_
  have hE := Bk.new W #[.int .i64 0] 48
  rintro e w' (⟨h1, h2⟩ | ⟨n, h1, h2⟩)
  · obtain ⟨t, _, _, _, ha⟩ := id h2
    exact .inl ⟨h1, h2, hE.kept ha (by omega)⟩
  · obtain ⟨t, _, _, _, ha⟩ := id h2
    exact .inr ⟨n, h1, h2, hE.kept ha (by omega)⟩))
 have hmf : ∀ (fn : Fn) (first cap : Array Value) (w : World), (Instr.makeFunc fn first cap).run Tryz.prog w = .ok (.func fn first cap) w := fun _ _ _ _ => rfl
 obtain ⟨S, hS⟩ : ∃ S : Ending → World → Prop, (fun e w' => ∃ t, e = .returned (.string (ba t)) ∧ PrT d.df t ∧ t.length ≤ 20000 ∧ Below w.heap.size w w') = S := ⟨_, rfl⟩
 show Calls _ _ _ _ (fun e w' => (fun e w' => ∃ t, e = .returned (.string (ba t)) ∧ PrT d.df t ∧ t.length ≤ 20000 ∧ Below w.heap.size w w') e w')
 rw [hS]
 have HS := Lib.hid hS
 have HbW := Lib.hid hbW
 have HW : Hid ((w.alloc (.cells #[.int .i64 d.k, .string d.t.name, .slice d.t.cols.A d.t.cols.n d.t.cols.c, .slice d.t.chks.A d.t.chks.n d.t.chks.c, .string d.v.name, .string d.v.frm, .string d.v.wth, .int .i64 d.v.on0, .int .i64 d.v.on1, .slice d.v.whr.A d.v.whr.n d.v.whr.c, .slice d.v.pick.A d.v.pick.n d.v.pick.c, .bool d.v.grp, .slice d.v.aggs.A d.v.aggs.n d.v.aggs.c] 38)).alloc (.cells #[.string ⟨#[]⟩] 9) = W) := hW
 clear hS hbW hW hG hd hok
 go_enter Tryz.func56, Tryz.ntmps56
 go_wp2_with fail
 rw [HW.out]
 refine HA.out.mono ?_
 rintro e w1 ⟨n, w2, rfl, ⟨t, hp, hl, hbk, hap⟩, ha⟩
 have hs2 := hap.size
 have hB1 : Bk w1 (w.heap.size + 1) #[.string (ba t)] 9 := Bk.kept hbk ha (by omega)
 have Hbel : Hid (Below w.heap.size w w1) := Lib.hid (by
  have h1 := HbW.out
  have h2 := below_one W (.cells #[.int .i64 0] 48)
  refine ⟨ha.os.trans (hap.os.trans (h2.os.trans h1.os)), ha.tape.trans (hap.tape.trans (h2.tape.trans h1.tape)), ha.output.trans (hap.output.trans (h2.output.trans h1.output)), by have := ha.size; omega, fun k hk => ?_⟩
  exact (ha.other k (by omega) (by omega)).trans ((hap.other k (by omega) (by omega)).trans ((h2.block k (by omega)).trans (h1.block k hk))))
 have k0 : w1.cell? ⟨w.heap.size + 1, 0, none⟩ = some (.string (ba t)) := hB1.cell 0
 have HP := Lib.hid (And.intro hp hl)
 clear hp hl hbk hap ha hB1 HA hs2
 go_wp2
 show S (.returned (.string (ba t))) w1
 rw [← HS.out]
 exact ⟨t, rfl, HP.out.1, HP.out.2, Hbel.out⟩
set_option maxHeartbeats 4000000 in
theorem dmay_c (d : Dm) (w : World) (hG : Gw w.heap.size w) (hd : d.In w) (hok : DfOk d.df) :
 Calls Tryz.prog 36 #[d.w] w fun e w' => ∃ t, e = .returned (.bool (decide (t ≠ []))) ∧ PrT d.df t ∧ t.length ≤ 20000 ∧ Below w.heap.size w w' := by
 obtain ⟨W, hW⟩ : ∃ W, w.alloc (.cells d.cl.toArray 38) = W := ⟨_, rfl⟩
 have hbW : Below w.heap.size w W := by rw [← hW]; exact below_one w _
 have HBd : Hid (BkD W w.heap.size d) := Lib.hid (by rw [← hW]; exact Bk.new w _ _)
 have HP := Lib.hid (dprint_c d W ((hG.below hbW).up hbW.size) (hd.after hbW) hok)
 obtain ⟨S, hS⟩ : ∃ S : Ending → World → Prop, (fun e w' => ∃ t, e = .returned (.bool (decide (t ≠ []))) ∧ PrT d.df t ∧ t.length ≤ 20000 ∧ Below w.heap.size w w') = S := ⟨_, rfl⟩
 show Calls _ _ _ _ (fun e w' => (fun e w' => ∃ t, e = .returned (.bool (decide (t ≠ []))) ∧ PrT d.df t ∧ t.length ≤ 20000 ∧ Below w.heap.size w w') e w')
 rw [hS]
 have HS := Lib.hid hS
 have HbW := Lib.hid hbW
 have HW : Hid (w.alloc (.cells #[.int .i64 d.k, .string d.t.name, .slice d.t.cols.A d.t.cols.n d.t.cols.c, .slice d.t.chks.A d.t.chks.n d.t.chks.c, .string d.v.name, .string d.v.frm, .string d.v.wth, .int .i64 d.v.on0, .int .i64 d.v.on1, .slice d.v.whr.A d.v.whr.n d.v.whr.c, .slice d.v.pick.A d.v.pick.n d.v.pick.c, .bool d.v.grp, .slice d.v.aggs.A d.v.aggs.n d.v.aggs.c] 38) = W) := hW
 clear hS hbW hW hG hd hok
 go_enter Tryz.func36, Tryz.ntmps36
 go_wp2_with fail
 rw [HW.out]
 refine HP.out.mono ?_
 rintro e w1 ⟨t, rfl, hp, hl, hb⟩
 have hF : S (.returned (.bool (decide (t ≠ [])))) w1 := by
  rw [← HS.out]
  exact ⟨t, rfl, hp, hl, below_via HbW.out hb⟩
 have HF := Lib.hid hF
 clear hp hl hb hF HP
 cases t with
 | nil =>
   go_wp2
   exact HF.out
 | cons c r =>
   obtain ⟨u, hu⟩ : ∃ u, ba (c :: r) = u := ⟨_, rfl⟩
   have hn : u.size ≠ 0 := by rw [← hu]; show (c :: r).length ≠ 0; simp
   have hu2 := size_ne hn
   rw [hu]
   clear hu hn
   go_wp2
   exact HF.out
theorem run_eqC (w : World) (a b : ByteArray) (k k' ac ac' : Int) (nu un nu' un' : Bool) (r r' : ByteArray) : (binOp .eql 41 (.agg #[.string a, .int .i64 k, .bool nu, .bool un, .string r, .int .i64 ac]) (.agg #[.string b, .int .i64 k', .bool nu', .bool un', .string r', .int .i64 ac'])).run Tryz.prog w = .ok (.bool (Cl.eqB ⟨a, k, nu, un, r, ac⟩ ⟨b, k', nu', un', r', ac'⟩)) w := by
 have e : (Op.equalIn 10000 41 (.agg #[.string a, .int .i64 k, .bool nu, .bool un, .string r, .int .i64 ac]) (.agg #[.string b, .int .i64 k', .bool nu', .bool un', .string r', .int .i64 ac'])).run Tryz.prog w = .ok (decide ((⟨a, k, nu, un, r, ac⟩ : Cl) = ⟨b, k', nu', un', r', ac'⟩)) w := by
  simp [go_sem, Tryz.underlying41, Tryz.underlying3, Tryz.underlying4, Tryz.underlying9]
  have hs : ∀ x y : ByteArray, (x.toList = y.toList) ↔ x = y := fun x y => ⟨toList_inj, fun h => by rw [h]⟩
  by_cases h1 : a = b <;> by_cases h2 : k = k' <;> by_cases h3 : nu = nu' <;> by_cases h4 : un = un' <;> by_cases h5 : r = r' <;> by_cases h6 : ac = ac' <;> simp [hs, h1, h2, h3, h4, h5, h6]
 rw [run_eql_struct, e]; rfl
section
attribute [local go_sem ↓] run_eqC
end
end Go.Proofs.YtamekagminbejaaGreatDoor
namespace Go.Proofs.YtamekagminbejaaGreatDoor
open Go Go.RowKit
set_option maxRecDepth 100000
attribute [local go_sem ↓] Go.wp_at_zero Go.wp_at_succ
end Go.Proofs.YtamekagminbejaaGreatDoor
namespace Go.Proofs.YtamekagminbejaaGreatDoor
open Go Go.RowKit
set_option maxRecDepth 100000
attribute [local go_sem ↓] Go.wp_at_zero Go.wp_at_succ
end Go.Proofs.YtamekagminbejaaGreatDoor
namespace Go.Proofs.YtamekagminbejaaGreatDoor
open Go Go.RowKit
set_option maxRecDepth 100000
attribute [local go_sem ↓] Go.wp_at_zero Go.wp_at_succ
end Go.Proofs.YtamekagminbejaaGreatDoor
namespace Go.Proofs.YtamekagminbejaaGreatDoor
open Go Go.RowKit
set_option maxRecDepth 100000
attribute [local go_sem ↓] Go.wp_at_zero Go.wp_at_succ
end Go.Proofs.YtamekagminbejaaGreatDoor
namespace Go.Proofs.YtamekagminbejaaGreatDoor
open Go Go.RowKit
set_option maxRecDepth 100000
attribute [local go_sem ↓] Go.wp_at_zero Go.wp_at_succ
end Go.Proofs.YtamekagminbejaaGreatDoor
namespace Go.Proofs.YtamekagminbejaaGreatDoor
open Go Go.RowKit
set_option maxRecDepth 100000
structure Apq (b : Nat) (w w' : World) : Prop extends Apb b w w' where
 c0 : b < w.heap.size → w'.cell? ⟨b, 0, none⟩ = w.cell? ⟨b, 0, none⟩
instance {b : Nat} {w w' : World} : CoeOut (Apq b w w') (Apb b w w') := ⟨Apq.toApb⟩
def SlI (w : World) (A : Option Addr) (ks : List Int) : Prop :=
 ks = [] ∨ ∃ b off, A = some ⟨b, off, none⟩ ∧ b < w.heap.size ∧ ∀ i (k : Int), ks[i]? = some k → w.cell? ⟨b, off + i, none⟩ = some (.int .i64 k)
theorem SlI.after {w w' : World} {A : Option Addr} {ks : List Int} (h : SlI w A ks) (hb : Below w.heap.size w w') : SlI w' A ks := by
 rcases h with h | ⟨b, off, hA, hlt, h⟩
 · exact .inl h
 · exact .inr ⟨b, off, hA, Nat.lt_of_lt_of_le hlt hb.size, fun i k hk => (hb.cell hlt).trans (h i k hk)⟩
namespace RegT
open Reg
section
variable {P : Program} {ops : Array Oper} {Q : Exit → Act → World → Prop} {see deps olds : Nat → List Nat} {fact : Nat → List Value → World → Prop}
end
section
variable {P : Program} {ops : Array Oper} {Q : Exit → Act → World → Prop}
end
end RegT
end Go.Proofs.YtamekagminbejaaGreatDoor
namespace Go.Proofs.YtamekagminbejaaGreatDoor
open Go Go.RowKit
set_option maxRecDepth 100000
def Kx (w : World) (b : Nat) (v u : Value) : Prop := w.heap[b]? = some (.cells #[v, u] 175 (0, 0))
theorem Kx.cell0 {w : World} {b : Nat} {v u : Value} (h : Kx w b v u) : w.cell? ⟨b, 0, none⟩ = some v := by unfold Kx at h; simp [World.cell?, h]
theorem Kx.cell1 {w : World} {b : Nat} {v u : Value} (h : Kx w b v u) : w.cell? ⟨b, 1, none⟩ = some u := by unfold Kx at h; simp [World.cell?, h]
theorem Kx.frozen {w : World} {b : Nat} {v u : Value} (h : Kx w b v u) (i : Nat) : w.frozen? ⟨b, i, none⟩ = false := by unfold Kx at h; simp [World.frozen?, h]
theorem Kx.lt {w : World} {b : Nat} {v u : Value} (h : Kx w b v u) : b < w.heap.size := by
 rcases Nat.lt_or_ge b w.heap.size with hlt | hge
 · exact hlt
 · unfold Kx at h; rw [Array.getElem?_eq_none hge] at h; cases h
theorem Kx.after {w w' : World} {b : Nat} {v u : Value} (h : Kx w b v u) (hb : Below w.heap.size w w') : Kx w' b v u := (hb.block b h.lt).trans h
theorem Kx.new (w : World) (v u : Value) : Kx (w.alloc (.cells #[v, u] 175)) w.heap.size v u := by
 show (w.heap.push _)[w.heap.size]? = _
 simp
def Nd.cells (x : Nd) : Array Value := #[.int .i64 x.op, .int .i64 x.n, .int .i64 x.v.k, .int .i64 x.v.n, .string x.v.s]
def Nx (w : World) (b : Nat) (x : Nd) : Prop := w.heap[b]? = some (.cells x.cells 83 (0, 0))
theorem Nx.lt {w : World} {b : Nat} {x : Nd} (h : Nx w b x) : b < w.heap.size := by
 rcases Nat.lt_or_ge b w.heap.size with hlt | hge
 · exact hlt
 · unfold Nx at h; rw [Array.getElem?_eq_none hge] at h; cases h
theorem Nx.cell0 {w : World} {b : Nat} {x : Nd} (h : Nx w b x) : w.cell? ⟨b, 0, none⟩ = some (.int .i64 x.op) := by unfold Nx at h; simp [World.cell?, h, Nd.cells]
theorem Nx.cell2 {w : World} {b : Nat} {x : Nd} (h : Nx w b x) : w.cell? ⟨b, 2, none⟩ = some (.int .i64 x.v.k) := by unfold Nx at h; simp [World.cell?, h, Nd.cells]
theorem Nx.new (w : World) (x : Nd) : Nx (w.alloc (.cells x.cells 83)) w.heap.size x := by
 show (w.heap.push _)[w.heap.size]? = _
 simp
theorem Nx.block {w w' : World} {b : Nat} {x : Nd} (h : Nx w b x) (hb : w'.heap[b]? = w.heap[b]?) : Nx w' b x := hb.trans h
theorem Nx.after {w w' : World} {b : Nat} {x : Nd} (h : Nx w b x) (hb : Below w.heap.size w w') : Nx w' b x := h.block (hb.block b h.lt)
theorem Kx.alloc {w : World} {b : Nat} {v u : Value} (h : Kx w b v u) (o : Obj) : Kx (w.alloc o) b v u := h.after (below_one w o)
theorem SlI.alloc {w : World} {A : Option Addr} {ks : List Int} (h : SlI w A ks) (o : Obj) : SlI (w.alloc o) A ks := h.after (below_one w o)
theorem ev_fa {F : Act} {w : World} {b off d : Nat} {t s : Nat} {i : Nat} {o : Oper} (ho : o.op = .fieldAddr t (.tmp s) i) (ht : Reg.slot F s = .pointer (some ⟨b, off, none⟩)) (hr : (Instr.fieldAt t (.pointer (some ⟨b, off, none⟩)) i).run Tryz.prog w = .ok (.pointer (some ⟨b, d, none⟩)) w) :
 (execOp F.eval o).run Tryz.prog w = .ok (.value (.pointer (some ⟨b, d, none⟩))) w := by
 have e1 : F.eval (.tmp s) = .pointer (some ⟨b, off, none⟩) := ht
 simp only [execOp, ho, e1, Sem.run_bind, hr, Sem.run_pure, Result.andThen_ok]
theorem ev_ld {F : Act} {w : World} {b off : Nat} {t s : Nat} {v : Value} {o : Oper} (ho : o.op = .load t (.tmp s)) (ht : Reg.slot F s = .pointer (some ⟨b, off, none⟩)) (hr : (Instr.loadAt t (.pointer (some ⟨b, off, none⟩))).run Tryz.prog w = .ok v w) :
 (execOp F.eval o).run Tryz.prog w = .ok (.value v) w := by
 have e1 : F.eval (.tmp s) = .pointer (some ⟨b, off, none⟩) := ht
 simp only [execOp, ho, e1, Sem.run_bind, hr, Sem.run_pure, Result.andThen_ok]
set_option maxRecDepth 100000
attribute [local go_sem ↓] run_eqV run_neV
end Go.Proofs.YtamekagminbejaaGreatDoor
namespace Go.Proofs.YtamekagminbejaaGreatDoor
open Go Go.RowKit
namespace RegJ
open Reg
section
variable {P : Program} {ops : Array Oper} {Q : Exit → Act → World → Prop} {see deps olds : Nat → List Nat} {fact : Nat → List Value → World → Prop}
end
section
variable {P : Program} {ops : Array Oper} {Q : Exit → Act → World → Prop}
end
end RegJ
end Go.Proofs.YtamekagminbejaaGreatDoor
namespace Go.Proofs.YtamekagminbejaaGreatDoor
open Go Go.RowKit
set_option maxRecDepth 100000
set_option maxRecDepth 100000
attribute [local go_sem ↓] Go.wp_at_zero Go.wp_at_succ
end Go.Proofs.YtamekagminbejaaGreatDoor
namespace Go.Proofs.YtamekagminbejaaGreatDoor
open Go Go.RowKit
set_option maxRecDepth 100000
section
variable {α : Type} {b V B : Nat} {W w5 : World} {E : TypeId} {S : Nat} {rd : α → List Value} {cs : Value → Array Value}
end
end Go.Proofs.YtamekagminbejaaGreatDoor
namespace Go.Proofs.YtamekagminbejaaGreatDoor
open Go Go.RowKit
set_option maxRecDepth 100000
attribute [local go_sem ↓] Go.wp_at_zero Go.wp_at_succ
end Go.Proofs.YtamekagminbejaaGreatDoor
namespace Go.Proofs.YtamekagminbejaaGreatDoor
open Go Go.RowKit
set_option maxRecDepth 100000
def nxN (m : Bool) (a : Int) (c : UInt8) : Int := if m then a * 10 - (c.toNat - 48 : Nat) else a * 10 + (c.toNat - 48 : Nat)
def stpN (m : Bool) (o : Option Int) (c : UInt8) : Option Int :=
 if c = 45 then o else o.bind fun a => if (-9223372036854775808 ≤ a * 10 ∧ a * 10 ≤ 9223372036854775807) ∧ (-9223372036854775808 ≤ nxN m a c ∧ nxN m a c ≤ 9223372036854775807) then some (nxN m a c) else none
def runN (m : Bool) (l : List UInt8) : Option Int := l.foldl (stpN m) (some 0)
set_option pp.deepTerms true
set_option pp.maxSteps 1000000
attribute [local go_sem ↓] Go.wp_at_zero Go.wp_at_succ
end Go.Proofs.YtamekagminbejaaGreatDoor
namespace Go.Proofs.YtamekagminbejaaGreatDoor
open Go Go.RowKit
set_option maxRecDepth 100000
attribute [local go_sem ↓] Go.wp_at_zero Go.wp_at_succ
end Go.Proofs.YtamekagminbejaaGreatDoor
namespace Go.Proofs.YtamekagminbejaaGreatDoor
open Go Go.RowKit
set_option maxRecDepth 100000
structure Sc where
 name : ByteArray
 tb : Bool
 ks : Sx Int
 ns : Sx Bool
abbrev Sc.w (x : Sc) : Value := .agg #[.string x.name, .bool x.tb, .slice x.ks.A x.ks.n x.ks.c, .slice x.ns.A x.ns.n x.ns.c]
def rdSc (x : Sc) : List Value := [.string x.name, .bool x.tb, .slice x.ks.A x.ks.n x.ks.c, .slice x.ns.A x.ns.n x.ns.c]
def Sc.en (x : Sc) : En := ⟨x.name, x.tb, x.ks.xs, x.ns.xs⟩
structure Sc.In (w : World) (x : Sc) : Prop where
 ks : x.ks.In w 1 rdI
 ns : x.ns.In w 1 rdB
theorem Sc.In.after {w w' : World} {x : Sc} (h : x.In w) (hb : Below w.heap.size w w') : x.In w' := ⟨h.ks.after hb, h.ns.after hb⟩
def sc0 : Sc := ⟨emp, false, sx0, sx0⟩
theorem sx0_in {α : Type} (w : World) (S : Nat) (rd : α → List Value) : (sx0 : Sx α).In w S rd := ⟨rfl, Nat.zero_le _, .inl rfl⟩
theorem sc0_in (w : World) : sc0.In w := ⟨sx0_in w _ _, sx0_in w _ _⟩
theorem scOk : ElOk Tryz.prog 58 64 4 72 sc0.w rdSc where
 under := Tryz.underlying58
 info := by kernel_rfl
 zs := rfl
 pos := by decide
 len := fun _ => rfl
 one := fun x u hu => by
  simp [rdSc] at hu
  rcases hu with rfl | rfl | rfl | rfl <;> rfl
structure ScL (w : World) (A : Option Addr) (n : Nat) (xs : List Sc) : Prop where
 len : xs.length = n
 max : n ≤ maxLen
 sl : SlG w A 4 rdSc xs
 each : ∀ x ∈ xs, x.In w
theorem ScL.after {w w' : World} {A : Option Addr} {n : Nat} {xs : List Sc} (h : ScL w A n xs) (hb : Below w.heap.size w w') : ScL w' A n xs := ⟨h.len, h.max, h.sl.after hb, fun x hx => (h.each x hx).after hb⟩
def enL (xs : List Sc) : List En := xs.map Sc.en
structure CtL (w : World) (A : Option Addr) (n : Nat) (xs : List Dm) : Prop where
 len : xs.length = n
 max : n ≤ maxLen
 sl : SlG w A 13 rdD xs
 each : ∀ x ∈ xs, x.In w
theorem CtL.after {w w' : World} {A : Option Addr} {n : Nat} {xs : List Dm} (h : CtL w A n xs) (hb : Below w.heap.size w w') : CtL w' A n xs := ⟨h.len, h.max, h.sl.after hb, fun x hx => (h.each x hx).after hb⟩
def idxL {α : Type} (p : α → Bool) : List α → Nat → Int
 | [], _ => -1
 | x :: l, k => if p x then (k : Int) else idxL p l (k + 1)
theorem idxL_drop {α : Type} (p : α → Bool) (cs : List α) (k : Nat) (x : α) (h : cs[k]? = some x) : idxL p (cs.drop k) k = if p x then (k : Int) else idxL p (cs.drop (k + 1)) (k + 1) := by
 have h1 := List.drop_eq_getElem_cons (List.getElem?_eq_some_iff.1 h).1
 rw [(List.getElem?_eq_some_iff.1 h).2] at h1
 rw [h1, idxL]
theorem idxL_find {α : Type} (p : α → Bool) : ∀ (l : List α) (k : Nat), (idxL p l k = -1 ∧ l.find? p = none) ∨ ∃ i x, idxL p l k = ((k + i : Nat) : Int) ∧ l[i]? = some x ∧ l.find? p = some x
 | [], k => .inl ⟨rfl, rfl⟩
 | x :: l, k => by
   cases h : p x
   · rcases idxL_find p l (k + 1) with ⟨h1, h2⟩ | ⟨i, y, h1, h2, h3⟩
     · exact .inl ⟨by rw [idxL, h, if_neg (by simp), h1], by rw [List.find?_cons_of_neg (by simp [h]), h2]⟩
     · exact .inr ⟨i + 1, y, by rw [idxL, h, if_neg (by simp), h1]; congr 1; omega, by simpa using h2, by rw [List.find?_cons_of_neg (by simp [h]), h3]⟩
   · exact .inr ⟨0, x, by rw [idxL, h, if_pos rfl]; rfl, rfl, by rw [List.find?_cons_of_pos h]⟩
theorem idxL_any {α : Type} (p : α → Bool) (l : List α) : decide (0 ≤ idxL p l 0) = l.any p := by
 rcases idxL_find p l 0 with ⟨h1, h2⟩ | ⟨i, x, h1, _, h3⟩
 · rw [h1]
   symm
   rw [show decide ((0 : Int) ≤ -1) = false from rfl, List.any_eq_false]
   exact List.find?_eq_none.1 h2
 · rw [h1, decide_eq_true (by omega)]
   symm
   rw [List.any_eq_true]
   exact ⟨x, List.mem_of_find?_eq_some h3, List.find?_some h3⟩
end Go.Proofs.YtamekagminbejaaGreatDoor
