/-
  Part 8 of 9 of what the proof leans on: each part below says what it proves, and of what; no condition besides.
-/
import Derived.Test.YtjgpmnffagdhlaaGreatDoorQ07
import Derived.Deep.RegionHeld3
import Derived.Deep.DeepCutAuto
import Derived.Test.YtjgpmnffagdhlaaGreatDoorRows
import Derived.ProofKit
import Derived.OpenShut
import Derived.Deep.DeepHandedRow
import Derived.Lib.LaidTab
import Derived.Lib.LaidU8
import Derived.Lib.SmallJoins
import Derived.Deep.Slices
import Derived.Deep.Fields
import Derived.ChangeSame
import Derived.ChangeMaps5
import Derived.Lay
import Derived.Below
set_option linter.unusedVariables false
set_option linter.unusedSimpArgs false
namespace Go.Proofs.YtjgpmnffagdhlaaGreatDoor
open Go Go.RowKit
set_option maxRecDepth 100000
attribute [local go_sem ↓] Go.wp_at_zero Go.wp_at_succ
set_option maxHeartbeats 4000000 in
theorem qview_c (b : Nat) (l : List Tk) (ok : Bool) (w : World) (hP : Pq w b l ok) :
 Calls Tryz.prog 63 #[.pointer (some ⟨b, 0, none⟩)] w fun e w' => ViewQ b w ok (viewP l) e w' := by
 obtain ⟨S, hS⟩ : ∃ S, ViewQ b w ok (viewP l) = S := ⟨_, rfl⟩
 rw [hS]
 unfold viewP at hS
 have HS := Lib.hid hS
 have hb := hP.lt
 have Hb := Lib.hid hb
 obtain ⟨W, hW⟩ : ∃ W, w.alloc (.cells #[.string ⟨#[]⟩, .string ⟨#[]⟩, .string ⟨#[]⟩, .int .i64 0, .int .i64 0, .slice none 0 0, .slice none 0 0, .bool false, .slice none 0 0] 32) = W := ⟨_, rfl⟩
 have HP : Hid (Pq W b l ok) := Lib.hid (by rw [← hW]; exact hP.alloc _)
 have HA : Hid (Apq b w W) := Lib.hid (by rw [← hW]; exact (Apq.refl b w).alloc _)
 have HZ : Hid (Bk W w.heap.size #[.string emp, .string emp, .string emp, .int .i64 0, .int .i64 0, .slice none 0 0, .slice none 0 0, .bool false, .slice none 0 0] 32) := Lib.hid (by rw [← hW]; exact Bk.new w _ _)
 have HW := Lib.hid hW
 clear hW hP hS
 go_enter Tryz.func63, Tryz.ntmps63
 go_wp2_with fail
 rw [HW.out]
 refine (qname_c b l ok W HP.out).mono ?_
 rintro e w1 ⟨rfl, ⟨ok1, hp1, hpo1⟩, ha1⟩
 obtain ⟨nm, hnm⟩ : ∃ nm, (nextT l).t = nm := ⟨_, rfl⟩
 obtain ⟨l1, hl1⟩ : ∃ l1, l.tail = l1 := ⟨_, rfl⟩
 rw [hnm, hl1] at hpo1
 rw [hl1] at hp1
 rw [hnm]
 have Hpo1 := Lib.hid hpo1
 have hg1 : w.heap.size < w1.heap.size := Nat.lt_of_lt_of_le HZ.out.lt ha1.size
 have hg2 : W.heap.size ≤ w1.heap.size := ha1.size
 have hbW : b < W.heap.size := HP.out.lt
 have HI1 : Hid (VQ b w1.heap.size W (w1.alloc (.cells #[.string nm, .string ⟨#[]⟩, .string ⟨#[]⟩, .int .i64 0, .int .i64 0, .slice none 0 0, .slice none 0 0, .bool false, .slice none 0 0] 32)) l1 ok1 #[.string nm, .string emp, .string emp, .int .i64 0, .int .i64 0, .slice none 0 0, .slice none 0 0, .bool false, .slice none 0 0]) := Lib.hid ⟨hp1.alloc _, ha1.alloc _, Bk.new _ _ _⟩
 obtain ⟨V, hV⟩ : ∃ V, w1.heap.size = V := ⟨_, rfl⟩
 obtain ⟨W1, hW1⟩ : ∃ W1, w1.alloc (.cells #[.string nm, .string ⟨#[]⟩, .string ⟨#[]⟩, .int .i64 0, .int .i64 0, .slice none 0 0, .slice none 0 0, .bool false, .slice none 0 0] 32) = W1 := ⟨_, rfl⟩
 rw [hW1, hV] at HI1
 rw [hV] at hg1 hg2
 have hbV : b < V := by omega
 have HW1 := Lib.hid hW1
 have HV := Lib.hid hV
 clear hp1 ha1 hpo1 hnm hl1 HP HW hW1 hV
 go_wp2_with fail
 rw [HW1.out, HV.out]
 clear HW1 HV
 refine (qneed_c b l1 ok1 w_from W1 HI1.out.p).mono ?_
 rintro e w2 ⟨rfl, hp2, ha2⟩
 have HI2 := Lib.hid (HI1.out.step hbV hp2 ha2)
 obtain ⟨l2, hl2⟩ : ∃ l2, (takeP w_from l1).2 = l2 := ⟨_, rfl⟩
 obtain ⟨ok2, hok2⟩ : ∃ ok2, (ok1 && (takeP w_from l1).1) = ok2 := ⟨_, rfl⟩
 rw [hl2, hok2] at HI2
 have Hl2 := Lib.hid hl2
 have Hok2 := Lib.hid hok2
 clear hp2 ha2 HI1 hl2 hok2
 go_wp2_with fail
 refine (qname_c b l2 ok2 w2 HI2.out.p).mono ?_
 rintro e w3 ⟨rfl, ⟨ok3, hp3, hpo3⟩, ha3⟩
 obtain ⟨fr, hfr⟩ : ∃ fr, (nextT l2).t = fr := ⟨_, rfl⟩
 obtain ⟨l3, hl3⟩ : ∃ l3, l2.tail = l3 := ⟨_, rfl⟩
 rw [hfr, hl3] at hpo3
 rw [hl3] at hp3
 rw [hfr]
 have Hpo3 := Lib.hid hpo3
 have HI3 := Lib.hid (HI2.out.step hbV hp3 ha3)
 have c1 : w3.cell? ⟨V, 1, none⟩ = some (.string emp) := HI3.out.bk.cell 1
 have f1 := HI3.out.bk.thaw 1
 have hV3 := HI3.out.bk.lt
 clear hp3 ha3 hpo3 HI2 hfr hl3
 go_upto_if 15 with fail
 have HI3b : Hid (VQ b V W (w3.setCell ⟨V, 1, none⟩ (.string fr)) l3 ok3 #[.string nm, .string fr, .string emp, .int .i64 0, .int .i64 0, .slice none 0 0, .slice none 0 0, .bool false, .slice none 0 0]) := Lib.hid (HI3.out.set hbV hg2 1 (.string fr))
 refine (qtake_c b l3 ok3 w_join _ HI3b.out.p).mono ?_
 rintro e w4 ⟨rfl, hp4, ha4⟩
 have HI4 := Lib.hid (HI3b.out.step hbV hp4 ha4)
 clear hp4 ha4 c1 f1 hV3 HI3 HI3b
 go_upto_if 15 with fail
 go_cut [15] (fun _ wx => ∃ (wt : ByteArray) (o0 o1 : Int) (l4 : List Tk) (ok4 : Bool), Hid (VQ b V W wx l4 ok4 #[.string nm, .string fr, .string wt, .int .i64 o0, .int .i64 o1, .slice none 0 0, .slice none 0 0, .bool false, .slice none 0 0]) ∧ Hid (PO ok3 ok4 (joinP l3) (wt, o0, o1) l4))
 case first =>
  cases hR : (takeP w_join l3).1
  case false =>
   rw [take_no hR] at HI4
   have Hpo := Lib.hid (po_some ok3 (join_no hR))
   clear hR
   go_wp2_with fail
   go_meet
   exact ⟨emp, 0, 0, l3, ok3, HI4, Hpo⟩
  case true =>
   have HJ := Lib.hid (fun (ok1 : Bool) (r : ByteArray × Int × Int) (l1 : List Tk) h => join_po (ok := ok3) (ok1 := ok1) (l1 := l1) (r := r) hR h)
   obtain ⟨l4, hl4⟩ : ∃ l4, (takeP w_join l3).2 = l4 := ⟨_, rfl⟩
   rw [hl4] at HI4 HJ
   clear hR hl4
   go_wp2_with fail
   refine (qname_c b l4 ok3 w4 HI4.out.p).mono ?_
   rintro e w5 ⟨rfl, ⟨ok5, hp5, hpo5⟩, ha5⟩
   obtain ⟨wt, hwt⟩ : ∃ wt, (nextT l4).t = wt := ⟨_, rfl⟩
   obtain ⟨l5, hl5⟩ : ∃ l5, l4.tail = l5 := ⟨_, rfl⟩
   rw [hwt, hl5] at hpo5
   rw [hl5] at hp5
   rw [hwt]
   have Hpo5 := Lib.hid hpo5
   have HI5 := Lib.hid (HI4.out.step hbV hp5 ha5)
   have c2 : w5.cell? ⟨V, 2, none⟩ = some (.string emp) := HI5.out.bk.cell 2
   have f2 := HI5.out.bk.thaw 2
   have hV5 := HI5.out.bk.lt
   clear hp5 ha5 hpo5 HI4 hwt hl5
   go_wp2_with fail
   have HI5b : Hid (VQ b V W (w5.setCell ⟨V, 2, none⟩ (.string wt)) l5 ok5 #[.string nm, .string fr, .string wt, .int .i64 0, .int .i64 0, .slice none 0 0, .slice none 0 0, .bool false, .slice none 0 0]) := Lib.hid (HI5.out.set hbV hg2 2 (.string wt))
   refine (qneed_c b l5 ok5 w_on _ HI5b.out.p).mono ?_
   rintro e w6 ⟨rfl, hp6, ha6⟩
   have HI6 := Lib.hid (HI5b.out.step hbV hp6 ha6)
   clear hp6 ha6 c2 f2 hV5 HI5 HI5b
   go_wp2_with fail
   refine (qcol_c b _ _ w6 HI6.out.p).mono ?_
   rintro e w7 ⟨rfl, ⟨ok7, hp7, hpo7⟩, ha7⟩
   have HI7 := Lib.hid (HI6.out.step hbV hp7 ha7)
   have Hpo7 := Lib.hid hpo7
   clear hp7 ha7 hpo7 HI6
   obtain ⟨o0, ho0⟩ : ∃ o, (nextT (takeP w_on l5).2).v.n = o := ⟨_, rfl⟩
   obtain ⟨l7, hl7⟩ : ∃ q, (takeP w_on l5).2.tail = q := ⟨_, rfl⟩
   rw [ho0, hl7] at Hpo7
   rw [hl7] at HI7
   rw [ho0]
   clear ho0 hl7
   go_wp2_with fail
   refine (qneed_c b l7 ok7 s_eq w7 HI7.out.p).mono ?_
   rintro e w8 ⟨rfl, hp8, ha8⟩
   have HI8 := Lib.hid (HI7.out.step hbV hp8 ha8)
   clear hp8 ha8 HI7
   go_wp2_with fail
   refine (qcol_c b _ _ w8 HI8.out.p).mono ?_
   rintro e w9 ⟨rfl, ⟨ok9, hp9, hpo9⟩, ha9⟩
   have HI9 := Lib.hid (HI8.out.step hbV hp9 ha9)
   have Hpo9 := Lib.hid hpo9
   clear hp9 ha9 hpo9 HI8
   obtain ⟨o1, ho1⟩ : ∃ o, (nextT (takeP s_eq l7).2).v.n = o := ⟨_, rfl⟩
   obtain ⟨l9, hl9⟩ : ∃ q, (takeP s_eq l7).2.tail = q := ⟨_, rfl⟩
   rw [ho1, hl9] at Hpo9
   rw [hl9] at HI9
   rw [ho1]
   clear ho1 hl9
   have c3 : w9.cell? ⟨V, 3, none⟩ = some (.int .i64 0) := HI9.out.bk.cell 3
   have c4 : w9.cell? ⟨V, 4, none⟩ = some (.int .i64 0) := HI9.out.bk.cell 4
   have f3 := HI9.out.bk.thaw 3
   have f4 := HI9.out.bk.thaw 4
   have hV9 := HI9.out.bk.lt
   go_wp2_with fail
   go_meet
   exact ⟨wt, o0, o1, l9, ok9, Lib.hid ((HI9.out.set hbV hg2 3 (.int .i64 o0)).set hbV hg2 4 (.int .i64 o1)), Lib.hid (HJ.out _ _ _ (Hpo5.out.bind (PO.need (Hpo7.out.bind (PO.need (Hpo9.out.map rfl))))))⟩
 case rest =>
  obtain ⟨wt, o0, o1, l4, ok4, hi4, hpo4⟩ := hcut
  clear HI4
  go_upto_if 32 with fail
  refine (qtake_c b l4 ok4 w_where wc hi4.out.p).mono ?_
  rintro e w5 ⟨rfl, hp5, ha5⟩
  have HI5 := Lib.hid (hi4.out.step hbV hp5 ha5)
  clear hp5 ha5 hi4
  go_upto_if 32 with fail
  go_cut [32] (fun _ wx => ∃ (es : List Nd) (wv : Value) (l5 : List Tk) (ok5 : Bool), Hid (VQ b V W wx l5 ok5 #[.string nm, .string fr, .string wt, .int .i64 o0, .int .i64 o1, wv, .slice none 0 0, .bool false, .slice none 0 0]) ∧ Hid (OwnG wx (V + 1) 66 5 rdN wv es) ∧ Hid (PO ok4 ok5 (whereP l4) es l5))
  case first =>
   cases hR : (takeP w_where l4).1
   case false =>
    rw [take_no hR] at HI5
    have Hpo := Lib.hid (po_some ok4 (where_no hR))
    clear hR
    go_wp2_with fail
    go_meet
    exact ⟨[], _, l4, ok4, HI5, OwnG.nil _ _ _, Hpo⟩
   case true =>
    have hw := where_yes hR
    obtain ⟨l6, hl6⟩ : ∃ l6, (takeP w_where l4).2 = l6 := ⟨_, rfl⟩
    rw [hl6] at HI5 hw
    have Hw := Lib.hid hw
    clear hR hl6 hw
    go_wp2_with fail
    refine (qexpr_c b l6 ok4 w5 HI5.out.p).mono ?_
    rintro e w6 ⟨v6, es, l7, ok7, rfl, ho6, hle6, hp6, hpo6, ha6⟩
    have HI6 := Lib.hid (HI5.out.step hbV hp6 ha6)
    have HO6 := Lib.hid (ho6.mono (B' := V + 1) (by have := HI5.out.bk.lt; omega))
    have Hpo6 : Hid (PO ok4 ok7 (whereP l4) es l7) := Lib.hid (by rw [Hw.out]; exact hpo6)
    have c5 : w6.cell? ⟨V, 5, none⟩ = some (.slice none 0 0) := HI6.out.bk.cell 5
    have f5 := HI6.out.bk.thaw 5
    have hV6 := HI6.out.bk.lt
    obtain ⟨A6, c6, rfl⟩ := ho6.isSlice
    clear hp6 ha6 hpo6 ho6 HI5 Hw
    go_wp2_with fail
    go_meet
    exact ⟨es, _, l7, ok7, Lib.hid (HI6.out.set hbV hg2 5 _), Lib.hid (HO6.out.same fun k hk => Below.heap_setCell _ _ _ _ (by have := (HO6.out.lt k hk).1; show k ≠ V; omega)), Hpo6⟩
  case rest =>
   obtain ⟨es, wv, l5, ok5, hi5, ho5, hpo5⟩ := hcut
   obtain ⟨Aw, cw, hwv, hinw, hblw⟩ := ho5.out.sx nOk.len
   subst hwv
   clear HI5
   go_upto_region 14 with fail
   refine (qneed_c b l5 ok5 w_pick wc hi5.out.p).mono ?_
   rintro e w5 ⟨rfl, hp6, ha6⟩
   have HI6 := Lib.hid (hi5.out.step hbV hp6 ha6)
   obtain ⟨l6, hl6⟩ : ∃ l6, (takeP w_pick l5).2 = l6 := ⟨_, rfl⟩
   obtain ⟨ok6, hok6⟩ : ∃ ok6, (ok5 && (takeP w_pick l5).1) = ok6 := ⟨_, rfl⟩
   rw [hl6, hok6] at HI6
   have Hl6 := Lib.hid hl6
   have Hok6 := Lib.hid hok6
   have HinW := Lib.hid (hinw.same ha6.size fun k hk => ha6.other k (hblw k hk).2 (by have := (hblw k hk).1; omega))
   have HblW : Hid (∀ k, Aw.map (·.block) = some k → V + 1 ≤ k ∧ k < w5.heap.size) := Lib.hid fun k hk => ⟨(hblw k hk).1, Nat.lt_of_lt_of_le (hblw k hk).2 ha6.size⟩
   have hVB : V < w5.heap.size := HI6.out.bk.lt
   have hbB : b < w5.heap.size := by omega
   have hg2V : W.heap.size ≤ V := hg2
   have HL5 : Hid (VL b V w5.heap.size W w5 3 1 rdI (fun v => #[.string nm, .string fr, .string wt, .int .i64 o0, .int .i64 o1, .slice Aw es.length cw, v, .bool false, .slice none 0 0]) w5 l6 ok6 (.slice none 0 0) []) := Lib.hid ⟨HI6.out, OwnG.nil _ _ _, fun _ _ _ _ => rfl, Nat.le_refl _⟩
   clear hp6 ha6 hinw hblw hi5 ho5 hl6 hok6 HI6
   go_upto_region 14 with fail
   go_cut [52] (fun s wx => s = .bool (!(l6.isEmpty || (takeP w_group l6).1)) ∧ Hid (VL b V w5.heap.size W w5 3 1 rdI (fun v => #[.string nm, .string fr, .string wt, .int .i64 o0, .int .i64 o1, .slice Aw es.length cw, v, .bool false, .slice none 0 0]) wx l6 ok6 (.slice none 0 0) []))
   case first =>
    cases l6 with
    | nil =>
      obtain ⟨A, n, c, hk, hn⟩ := HL5.out.q.p.nil
      have p0 : w5.cell? ⟨b, 0, none⟩ = some (.slice A n c) := hk.cell 0
      have p1 : w5.cell? ⟨b, 1, none⟩ = some (.int .i64 (n : Int)) := hk.cell 1
      clear hk
      go_wp2_with fail
      go_region
      go_wp2
      go_meet
      exact ⟨rfl, Lib.hid (HL5.out.step hbV hbB HL5.out.q.p.drew (Apq.refl b w5).drew)⟩
    | cons t r =>
      obtain ⟨n, c, k, xs, d, off, hk, h2, h3, hlt, hT, h6, ht, hd, h7⟩ := HL5.out.q.p.cons
      have p0 : w5.cell? ⟨b, 0, none⟩ = some (.slice (some ⟨d, off, none⟩) n c) := hk.cell 0
      have p1 : w5.cell? ⟨b, 1, none⟩ = some (.int .i64 (k : Int)) := hk.cell 1
      have hkl : k < n := hlt
      obtain ⟨D, hD⟩ : ∃ D, (takeP w_group (t :: r)).1 = D := ⟨_, rfl⟩
      have HC := Lib.hid (fun (u : World) (hu : Pq u b (t :: r) ok6) => qis_c b (t :: r) ok6 w_group u hu)
      rw [hD] at HC
      have HD := Lib.hid hD
      clear hk h2 h3 hT h6 ht hd h7 hlt hD
      go_wp2_with fail
      go_region_held3 (fun w' => w'.cell? ⟨b, 0, none⟩ = some (.slice (some ⟨d, off, none⟩) n c) ∧ w'.cell? ⟨b, 1, none⟩ = some (.int .i64 (k : Int)))
       (first
         | exact ⟨p0, p1⟩
         | go_keep)
       (first
         | (go_at_call 98
            refine (HC.out w5.drew HL5.out.q.p.drew).mono ?_
            rintro e w7 ⟨rfl, rfl⟩))
      all_goals
       go_wp2
       go_meet
       exact ⟨by rw [← HD.out]; rfl, Lib.hid (HL5.out.step hbV hbB HL5.out.q.p.drew.drew ((Apq.refl b w5).drew.drew))⟩
   case rest =>
    obtain ⟨hs, HL⟩ := hcut
    subst hs
    clear HL5
    obtain ⟨D, hD⟩ : ∃ D, (l6.isEmpty || (takeP w_group l6).1) = D := ⟨_, rfl⟩
    rw [hD]
    have HD := Lib.hid hD
    clear hD
    go_upto_if 52 with fail
    go_cut [52] (fun _ wx => ∃ (pk : List Int) (pv : Value) (l7 : List Tk) (ok7 : Bool), Hid (VL b V w5.heap.size W w5 3 1 rdI (fun v => #[.string nm, .string fr, .string wt, .int .i64 o0, .int .i64 o1, .slice Aw es.length cw, v, .bool false, .slice none 0 0]) wx l7 ok7 pv pk) ∧ Hid (PO ok6 ok7 (picksP l6) pk l7) ∧ Hid (pk.length ≤ 20002))
    case first =>
     cases D
     case true =>
      go_wp2_with fail
      go_meet
      exact ⟨[], _, l6, ok6, HL, Lib.hid (po_some ok6 (picks_no HD.out)), Lib.hid (by simp)⟩
     case false =>
      go_upto_region 15 with fail
      go_cut [59] (fun _ wx => ∃ (x : Int) (lx : List Tk) (okx : Bool) (v : Value), Hid (VL b V w5.heap.size W w5 3 1 rdI (fun v => #[.string nm, .string fr, .string wt, .int .i64 o0, .int .i64 o1, .slice Aw es.length cw, v, .bool false, .slice none 0 0]) wx lx okx v [x]) ∧ Hid (PO ok6 okx (colP l6) x lx))
      case first =>
       have c1 : wc.cell? ⟨V, 6, none⟩ = some (.slice none 0 0) := HL.out.q.bk.cell 6
       have f1 := HL.out.q.bk.thaw 6
       have hlV := HL.out.q.bk.lt
       have hszl := HL.out.siz
       go_wp2_with fail
       go_region_law (first
        | (refine step_callV rfl 97 #[.pointer (some ⟨b, 0, none⟩)] (by kernel_rfl) (fun v' w' => ∃ (x : Int) (l' : List Tk) (ok' : Bool), v' = .int .i64 x ∧ Pq w' b l' ok' ∧ PO ok6 ok' (colP l6) x l' ∧ Apq b wc w') ((qcol_c b l6 ok6 wc.drew HL.out.q.p.drew).mono ?_) ?_
           · rintro e wx ⟨rfl, ⟨ok', h1, h2⟩, h3⟩
             exact .inl ⟨_, rfl, _, _, ok', rfl, h1, h2, (Apq.refl b wc).drew.trans h3⟩
           rintro vx wx ⟨x, lx, okx, rfl, hpx, hpox, hax⟩
           have HIx := Lib.hid (HL.out.step hbV hbB hpx hax)
           have Hpox := Lib.hid hpox
           have c1' : wx.cell? ⟨V, 6, none⟩ = some (.slice none 0 0) := HIx.out.q.bk.cell 6
           have f1' := HIx.out.q.bk.thaw 6
           have hlV1 := HIx.out.q.bk.lt
           have hszx := HIx.out.siz
           clear hpx hax hpox)
        | (refine step_appG iOk rfl (.tmp 54) (.tmp 57) rfl w5.heap.size (.slice none 0 0) ([] : List Int) [x] rfl (HIx.out.own.alloc _) (some ⟨wx.heap.size, 0, none⟩) 1 1 rfl rfl (by simp) (SlG.new iOk.len [x] rfl) (by first | (simp [maxLen]; done) | (simp [maxLen]; omega)) (by first | (simp; done) | (simp; omega)) (by simp; omega) ?_
           intro g2 cap w7 hv2 hg2
           have HF : Hid (VL b V w5.heap.size W w5 3 1 rdI (fun v => #[.string nm, .string fr, .string wt, .int .i64 o0, .int .i64 o1, .slice Aw es.length cw, v, .bool false, .slice none 0 0]) (w7.setCell ⟨V, 6, none⟩ (.slice (some ⟨g2, 0, none⟩) (([] : List Int).length + [x].length) cap)) lx okx (.slice (some ⟨g2, 0, none⟩) (([] : List Int).length + [x].length) cap) (([] : List Int) ++ [x])) := Lib.hid (HIx.out.app hbV hbB hVB hg2V 6 (fun _ _ => rfl) hv2 hg2)
           have HV7 : Hid (Bk w7 V #[.string nm, .string fr, .string wt, .int .i64 o0, .int .i64 o1, .slice Aw es.length cw, .slice none 0 0, .bool false, .slice none 0 0] 32) := Lib.hid (((hg2.block V (by simp; omega) (fun e => by have := (HIx.out.own.lt _ e.symm).1; omega)).trans (Below.heap_alloc _ _ V (by omega))).trans HIx.out.q.bk)
           have c1'' : w7.cell? ⟨V, 6, none⟩ = some (.slice none 0 0) := HV7.out.cell 6
           have f1'' := HV7.out.thaw 6
           have hlV2 := HV7.out.lt
           clear hv2 hg2))
       all_goals
        go_wp2
        go_meet
        exact ⟨x, lx, okx, _, HF, Hpox⟩
      case rest =>
       obtain ⟨x0, l0, ok0, v0, hi0, hpo0⟩ := hcut
       go_wp2_with fail
       go_loopw [67] (fun _ wr => ∃ (acc : List Int) (rest : List Tk) (okc : Bool) (v : Value), Hid (VL b V w5.heap.size W w5 3 1 rdI (fun v => #[.string nm, .string fr, .string wt, .int .i64 o0, .int .i64 o1, .slice Aw es.length cw, v, .bool false, .slice none 0 0]) wr rest okc v acc) ∧ Hid (SepJ colP ok6 l6 acc rest okc) ∧ Hid (acc.length ≤ 20002 ∧ (okc = true → acc.length + rest.length ≤ 20001))) (fun _ wr => pqLen wr b)
       case atStart => exact ⟨[x0], l0, ok0, v0, hi0, Lib.hid (SepJ.first (fun l a h => Nat.le_of_lt (col_len h)) hpo0.out), Lib.hid ⟨by simp, fun _ => by have := hi0.out.q.p.len; simp; omega⟩⟩
       case round =>
        clear hi0 hpo0
        obtain ⟨acc, rest, okc, v, hi, hj, hn⟩ := hrel
        have Hleft := Lib.hid hi.out.q.p.left
        obtain ⟨p2, hfz⟩ := hi.out.q.p.ok
        have hbl := hi.out.q.p.lt
        cases okc
        case false =>
         have Hpo := Lib.hid (hj.out.stop (fun h => by cases h))
         have Hn := Lib.hid hn.out.1
         clear hj hn
         go_wp2_with fail
         go_meet
         exact ⟨acc, v, rest, false, hi, Lib.hid (by rw [picks_yes HD.out]; exact Hpo.out), Hn⟩
        case true =>
         have HT := Lib.hid (qtake_c b rest true s_cm wr hi.out.q.p)
         go_wp2_with fail
         refine HT.out.mono ?_
         rintro e wy ⟨rfl, hpy, hay⟩
         have HIy := Lib.hid (hi.out.step hbV hbB hpy hay)
         clear HT hpy hay hi p2 hfz hbl
         cases hR : (takeP s_cm rest).1
         case false =>
          rw [take_no hR] at HIy
          have Hpo := Lib.hid (hj.out.stop (fun _ => hR))
          have Hn := Lib.hid hn.out.1
          clear hj hn hR
          go_wp2_with fail
          go_meet
          exact ⟨acc, v, rest, true, HIy, Lib.hid (by rw [picks_yes HD.out]; exact Hpo.out), Hn⟩
         case true =>
          have hlt5 := (take_len s_cm rest).2 hR
          have hjn : ∀ (x : Int) (l2' : List Tk) (ok2' : Bool), PO true ok2' (colP (takeP s_cm rest).2) x l2' → SepJ colP ok6 l6 (acc ++ [x]) l2' ok2' := fun x l2' ok2' h => hj.out.next (fun l a h => Nat.le_of_lt (col_len h)) hR h
          have Hjn := Lib.hid hjn
          obtain ⟨ly, hly⟩ : ∃ ly, (takeP s_cm rest).2 = ly := ⟨_, rfl⟩
          rw [hly] at HIy Hjn hlt5
          have hn1 := hn.out.1
          have hn2 := hn.out.2 (by first | rfl | trivial)
          have c1 : wy.cell? ⟨V, 6, none⟩ = some v := HIy.out.q.bk.cell 6
          have f1 := HIy.out.q.bk.thaw 6
          have hlV := HIy.out.q.bk.lt
          have hszl := HIy.out.siz
          clear hj hn hR hjn hly
          go_wp2_with fail
          go_region_law (first
           | (refine step_callV rfl 97 #[.pointer (some ⟨b, 0, none⟩)] (by kernel_rfl) (fun v' w' => ∃ (x : Int) (l' : List Tk) (ok' : Bool), v' = .int .i64 x ∧ Pq w' b l' ok' ∧ PO true ok' (colP ly) x l' ∧ Apq b wy w') ((qcol_c b ly true wy.drew HIy.out.q.p.drew).mono ?_) ?_
              · rintro e wx ⟨rfl, ⟨ok', h1, h2⟩, h3⟩
                exact .inl ⟨_, rfl, _, _, ok', rfl, h1, h2, (Apq.refl b wy).drew.trans h3⟩
              rintro vx wx ⟨x, lx, okx, rfl, hpx, hpox, hax⟩
              have HIx := Lib.hid (HIy.out.step hbV hbB hpx hax)
              have Hpox := Lib.hid hpox
              have c1' : wx.cell? ⟨V, 6, none⟩ = some v := HIx.out.q.bk.cell 6
              have f1' := HIx.out.q.bk.thaw 6
              have hlV1 := HIx.out.q.bk.lt
              have hszx := HIx.out.siz
              clear hpx hax hpox)
           | (refine step_appG iOk rfl (.tmp 69) (.tmp 72) rfl w5.heap.size v acc [x] rfl (HIx.out.own.alloc _) (some ⟨wx.heap.size, 0, none⟩) 1 1 rfl rfl (by simp) (SlG.new iOk.len [x] rfl) (by first | (simp [maxLen]; done) | (simp [maxLen]; omega)) (by first | (simp; done) | (simp; omega)) (by simp; omega) ?_
              intro g2 cap w7 hv2 hg2
              have HF : Hid (VL b V w5.heap.size W w5 3 1 rdI (fun v => #[.string nm, .string fr, .string wt, .int .i64 o0, .int .i64 o1, .slice Aw es.length cw, v, .bool false, .slice none 0 0]) (w7.setCell ⟨V, 6, none⟩ (.slice (some ⟨g2, 0, none⟩) (acc.length + [x].length) cap)) lx okx (.slice (some ⟨g2, 0, none⟩) (acc.length + [x].length) cap) (acc ++ [x])) := Lib.hid (HIx.out.app hbV hbB hVB hg2V 6 (fun _ _ => rfl) hv2 hg2)
              have HV7 : Hid (Bk w7 V #[.string nm, .string fr, .string wt, .int .i64 o0, .int .i64 o1, .slice Aw es.length cw, v, .bool false, .slice none 0 0] 32) := Lib.hid (((hg2.block V (by simp; omega) (fun e => by have := (HIx.out.own.lt _ e.symm).1; omega)).trans (Below.heap_alloc _ _ V (by omega))).trans HIx.out.q.bk)
              have c1'' : w7.cell? ⟨V, 6, none⟩ = some v := HV7.out.cell 6
              have f1'' := HV7.out.thaw 6
              have hlV2 := HV7.out.lt
              clear hv2 hg2))
          all_goals
           have hlen3 : okx = true → lx.length < ly.length := fun h => col_len (Hpox.out.2 h)
           have Hlen3 := Lib.hid hlen3
           clear hlen3
           go_wp2
           go_roundw
           case rel => exact ⟨acc ++ [x], lx, okx, _, HF, Lib.hid (Hjn.out x lx okx Hpox.out), Lib.hid ⟨by simp; omega, fun h => by have := Hlen3.out h; simp; omega⟩⟩
           case measure =>
            rw [Hleft.out]
            refine Nat.lt_of_le_of_lt (Nat.le_of_eq HF.out.q.p.left) ?_
            cases okx
            · simp
            · have := Hlen3.out rfl
              simp; omega
    case rest =>
     obtain ⟨pk, pv, l7, ok7, hi7, hpo7, hn7⟩ := hcut
     obtain ⟨Ap, cp, hpv, hinp, hblp⟩ := hi7.out.own.sx iOk.len
     subst hpv
     clear HL
     have HinW7 := Lib.hid (HinW.out.same hi7.out.siz fun k hk => hi7.out.keep k (HblW.out k hk).2 (by have := (HblW.out k hk).1; omega) (by have := (HblW.out k hk).1; omega))
     have Hinp := Lib.hid hinp
     have Hblp := Lib.hid hblp
     have HI7 := Lib.hid hi7.out.q
     have hsz7 := hi7.out.siz
     have Hn7 := hn7
     clear hi7 hinp hblp hn7 HinW
     go_upto_region 19 with fail
     refine (qtake_c b l7 ok7 w_group wc HI7.out.p).mono ?_
     rintro e w8 ⟨rfl, hp8, ha8⟩
     have HI8 := Lib.hid (HI7.out.step hbV hp8 ha8)
     have hsz8 := ha8.size
     have HinW8 := Lib.hid (HinW7.out.same ha8.size fun k hk => ha8.other k (by have := (HblW.out k hk).2; omega) (by have := (HblW.out k hk).1; omega))
     have Hinp8 := Lib.hid (Hinp.out.same ha8.size fun k hk => ha8.other k (Hblp.out k hk).2 (by have := (Hblp.out k hk).1; omega))
     obtain ⟨G, hG⟩ : ∃ G, (takeP w_group l7).1 = G := ⟨_, rfl⟩
     obtain ⟨l8, hl8⟩ : ∃ l8, (takeP w_group l7).2 = l8 := ⟨_, rfl⟩
     rw [hl8] at HI8
     rw [hG]
     have HG := Lib.hid hG
     have Hl8 := Lib.hid hl8
     have c7 : w8.cell? ⟨V, 7, none⟩ = some (.bool false) := HI8.out.bk.cell 7
     have f7 := HI8.out.bk.thaw 7
     have hV8 := HI8.out.bk.lt
     clear hp8 ha8 hG hl8 HinW7 Hinp HI7
     go_upto_region 19 with fail
     have HI9 : Hid (VQ b V W (w8.setCell ⟨V, 7, none⟩ (.bool G)) l8 ok7 #[.string nm, .string fr, .string wt, .int .i64 o0, .int .i64 o1, .slice Aw es.length cw, .slice Ap pk.length cp, .bool G, .slice none 0 0]) := Lib.hid (HI8.out.set hbV hg2 7 (.bool G))
     have hse : (w8.setCell ⟨V, 7, none⟩ (.bool G)).heap.size = w8.heap.size := by simp [World.setCell]
     have HinW9 := Lib.hid (HinW8.out.same (w' := w8.setCell ⟨V, 7, none⟩ (.bool G)) (by simp [World.setCell]) fun k hk => Below.heap_setCell _ _ _ _ (by have := (HblW.out k hk).1; show k ≠ V; omega))
     have Hinp9 := Lib.hid (Hinp8.out.same (w' := w8.setCell ⟨V, 7, none⟩ (.bool G)) (by simp [World.setCell]) fun k hk => Below.heap_setCell _ _ _ _ (by have := (Hblp.out k hk).1; show k ≠ V; omega))
     obtain ⟨w9, hw9⟩ : ∃ w9, w8.setCell ⟨V, 7, none⟩ (.bool G) = w9 := ⟨_, rfl⟩
     rw [hw9] at HI9 HinW9 Hinp9 hse ⊢
     have HblW9 : Hid (∀ k, Aw.map (·.block) = some k → V + 1 ≤ k ∧ k < w9.heap.size) := Lib.hid fun k hk => ⟨(HblW.out k hk).1, by have := (HblW.out k hk).2; omega⟩
     have Hblp9 : Hid (∀ k, Ap.map (·.block) = some k → V + 1 ≤ k ∧ k < w9.heap.size) := Lib.hid fun k hk => ⟨by have := (Hblp.out k hk).1; omega, by have := (Hblp.out k hk).2; omega⟩
     clear hbB hVB
     have hVB : V < w9.heap.size := HI9.out.bk.lt
     have hbB : b < w9.heap.size := by omega
     have HL9 : Hid (VL b V w9.heap.size W w9 74 2 rdAg (fun v => #[.string nm, .string fr, .string wt, .int .i64 o0, .int .i64 o1, .slice Aw es.length cw, .slice Ap pk.length cp, .bool G, v]) w9 l8 ok7 (.slice none 0 0) []) := Lib.hid ⟨HI9.out, OwnG.nil _ _ _, fun _ _ _ _ => rfl, Nat.le_refl _⟩
     clear c7 f7 hV8 hw9 HI8 HinW8 Hinp8 HI9 HblW Hblp hse hsz8 hsz7
     go_cut [91] (fun s wx => s = .bool (G && !l8.isEmpty) ∧ Hid (VL b V w9.heap.size W w9 74 2 rdAg (fun v => #[.string nm, .string fr, .string wt, .int .i64 o0, .int .i64 o1, .slice Aw es.length cw, .slice Ap pk.length cp, .bool G, v]) wx l8 ok7 (.slice none 0 0) []))
     case first =>
      have cG : w9.cell? ⟨V, 7, none⟩ = some (.bool G) := HL9.out.q.bk.cell 7
      cases l8 with
      | nil =>
        obtain ⟨A, n, c, hk, hn⟩ := HL9.out.q.p.nil
        have p0 : w9.cell? ⟨b, 0, none⟩ = some (.slice A n c) := hk.cell 0
        have p1 : w9.cell? ⟨b, 1, none⟩ = some (.int .i64 (n : Int)) := hk.cell 1
        clear hk
        cases G
        all_goals
         go_wp2_with fail
         go_region
         go_wp2
         go_meet
         exact ⟨rfl, Lib.hid (HL9.out.step hbV hbB HL9.out.q.p.drew (Apq.refl b w9).drew)⟩
      | cons t r =>
        obtain ⟨n, c, k, xs, d, off, hk, h2, h3, hlt, hT, h6, ht, hd, h7⟩ := HL9.out.q.p.cons
        have p0 : w9.cell? ⟨b, 0, none⟩ = some (.slice (some ⟨d, off, none⟩) n c) := hk.cell 0
        have p1 : w9.cell? ⟨b, 1, none⟩ = some (.int .i64 (k : Int)) := hk.cell 1
        have hkl : k < n := hlt
        clear hk h2 h3 hT h6 ht hd h7 hlt
        cases G
        all_goals
         go_wp2_with fail
         go_region
         go_wp2
         go_meet
         exact ⟨rfl, Lib.hid (HL9.out.step hbV hbB HL9.out.q.p.drew (Apq.refl b w9).drew)⟩
     case rest =>
      obtain ⟨hs, HL⟩ := hcut
      subst hs
      clear HL9
      have hag0 : (G && !l8.isEmpty) = false → aggsP l7 = some ((G, []), l8) := by
       intro h
       have hg := HG.out
       have hl := Hl8.out
       cases G
       · rw [take_no hg] at hl
         rw [aggs_no hg, hl]
       · have he : l8.isEmpty = true := by simpa using h
         have he2 : l8 = [] := by cases l8; · rfl
                                  · cases he
         rw [aggs_end hg (by rw [hl]; exact he), he2]
      have hag1 : (G && !l8.isEmpty) = true → aggsP l7 = (sepP aggP l8).map fun a => ((G, a.1), a.2) := by
       intro h
       have hg := HG.out
       have hl := Hl8.out
       simp only [Bool.and_eq_true, Bool.not_eq_true'] at h
       obtain ⟨h1, h2⟩ := h
       rw [h1] at hg
       rw [aggs_yes hg (by rw [hl]; exact h2), hl, h1]
      have Hag0 := Lib.hid hag0
      have Hag1 := Lib.hid hag1
      obtain ⟨D, hD⟩ : ∃ D, (G && !l8.isEmpty) = D := ⟨_, rfl⟩
      rw [hD] at Hag0 Hag1 ⊢
      clear hD hag0 hag1
      go_upto_if 91 with fail
      go_cut [91] (fun _ wx => ∃ (ag : List Ag) (av : Value) (l9 : List Tk) (ok9 : Bool), Hid (VL b V w9.heap.size W w9 74 2 rdAg (fun v => #[.string nm, .string fr, .string wt, .int .i64 o0, .int .i64 o1, .slice Aw es.length cw, .slice Ap pk.length cp, .bool G, v]) wx l9 ok9 av ag) ∧ Hid (PO ok7 ok9 (aggsP l7) (G, ag) l9) ∧ Hid (ag.length ≤ 20002))
      case first =>
       cases D
       case false =>
        go_wp2_with fail
        go_meet
        exact ⟨[], _, l8, ok7, HL, Lib.hid (po_some ok7 (Hag0.out (by first | rfl | trivial))), Lib.hid (by simp)⟩
       case true =>
        go_upto_region 20 with fail
        go_cut [98] (fun _ wx => ∃ (x : Ag) (lx : List Tk) (okx : Bool) (v : Value), Hid (VL b V w9.heap.size W w9 74 2 rdAg (fun v => #[.string nm, .string fr, .string wt, .int .i64 o0, .int .i64 o1, .slice Aw es.length cw, .slice Ap pk.length cp, .bool G, v]) wx lx okx v [x]) ∧ Hid (PO ok7 okx (aggP l8) x lx))
        case first =>
         have c1 : wc.cell? ⟨V, 8, none⟩ = some (.slice none 0 0) := HL.out.q.bk.cell 8
         have f1 := HL.out.q.bk.thaw 8
         have hlV := HL.out.q.bk.lt
         have hszl := HL.out.siz
         go_wp2_with fail
         go_region_law (first
          | (refine step_callV rfl 99 #[.pointer (some ⟨b, 0, none⟩)] (by kernel_rfl) (fun v' w' => ∃ (x : Ag) (l' : List Tk) (ok' : Bool), v' = x.w ∧ Pq w' b l' ok' ∧ PO ok7 ok' (aggP l8) x l' ∧ Apq b wc w') ((qagg_c b l8 ok7 wc.drew HL.out.q.p.drew).mono ?_) ?_
             · rintro e wx ⟨x, l', ok', rfl, h1, h2, h3⟩
               exact .inl ⟨_, rfl, x, l', ok', rfl, h1, h2, (Apq.refl b wc).drew.trans h3⟩
             rintro vx wx ⟨x, lx, okx, rfl, hpx, hpox, hax⟩
             have HIx := Lib.hid (HL.out.step hbV hbB hpx hax)
             have Hpox := Lib.hid hpox
             have c1' : wx.cell? ⟨V, 8, none⟩ = some (.slice none 0 0) := HIx.out.q.bk.cell 8
             have f1' := HIx.out.q.bk.thaw 8
             have hlV1 := HIx.out.q.bk.lt
             have hszx := HIx.out.siz
             clear hpx hax hpox)
          | (refine step_appG aOk7 rfl (.tmp 93) (.tmp 96) rfl w9.heap.size (.slice none 0 0) ([] : List Ag) [x] rfl (HIx.out.own.alloc _) (some ⟨wx.heap.size, 0, none⟩) 1 1 rfl rfl (by simp) (SlG.new aOk7.len [x] rfl) (by first | (simp [maxLen]; done) | (simp [maxLen]; omega)) (by first | (simp; done) | (simp; omega)) (by simp; omega) ?_
             intro g2 cap w7 hv2 hg2
             have HF : Hid (VL b V w9.heap.size W w9 74 2 rdAg (fun v => #[.string nm, .string fr, .string wt, .int .i64 o0, .int .i64 o1, .slice Aw es.length cw, .slice Ap pk.length cp, .bool G, v]) (w7.setCell ⟨V, 8, none⟩ (.slice (some ⟨g2, 0, none⟩) (([] : List Ag).length + [x].length) cap)) lx okx (.slice (some ⟨g2, 0, none⟩) (([] : List Ag).length + [x].length) cap) (([] : List Ag) ++ [x])) := Lib.hid (HIx.out.app hbV hbB hVB hg2V 8 (fun _ _ => rfl) hv2 hg2)
             have HV7 : Hid (Bk w7 V #[.string nm, .string fr, .string wt, .int .i64 o0, .int .i64 o1, .slice Aw es.length cw, .slice Ap pk.length cp, .bool G, .slice none 0 0] 32) := Lib.hid (((hg2.block V (by simp; omega) (fun e => by have := (HIx.out.own.lt _ e.symm).1; omega)).trans (Below.heap_alloc _ _ V (by omega))).trans HIx.out.q.bk)
             have c1'' : w7.cell? ⟨V, 8, none⟩ = some (.slice none 0 0) := HV7.out.cell 8
             have f1'' := HV7.out.thaw 8
             have hlV2 := HV7.out.lt
             clear hv2 hg2))
         all_goals
          go_wp2
          go_meet
          exact ⟨x, lx, okx, _, HF, Hpox⟩
        case rest =>
         obtain ⟨x0, l0, ok0, v0, hi0, hpo0⟩ := hcut
         go_wp2_with fail
         go_loopw [106] (fun _ wr => ∃ (acc : List Ag) (rest : List Tk) (okc : Bool) (v : Value), Hid (VL b V w9.heap.size W w9 74 2 rdAg (fun v => #[.string nm, .string fr, .string wt, .int .i64 o0, .int .i64 o1, .slice Aw es.length cw, .slice Ap pk.length cp, .bool G, v]) wr rest okc v acc) ∧ Hid (SepJ aggP ok7 l8 acc rest okc) ∧ Hid (acc.length ≤ 20002 ∧ (okc = true → acc.length + rest.length ≤ 20001))) (fun _ wr => pqLen wr b)
         case atStart => exact ⟨[x0], l0, ok0, v0, hi0, Lib.hid (SepJ.first (fun l a h => Nat.le_of_lt (agg_len h)) hpo0.out), Lib.hid ⟨by simp, fun _ => by have := hi0.out.q.p.len; simp; omega⟩⟩
         case round =>
          clear hi0 hpo0
          obtain ⟨acc, rest, okc, v, hi, hj, hn⟩ := hrel
          have Hleft := Lib.hid hi.out.q.p.left
          obtain ⟨p2, hfz⟩ := hi.out.q.p.ok
          have hbl := hi.out.q.p.lt
          cases okc
          case false =>
           have Hpo := Lib.hid (hj.out.stop (fun h => by cases h))
           have Hn := Lib.hid hn.out.1
           clear hj hn
           go_wp2_with fail
           go_meet
           exact ⟨acc, v, rest, false, hi, Lib.hid (by rw [Hag1.out (by first | rfl | trivial)]; exact Hpo.out.map rfl), Hn⟩
          case true =>
           have HT := Lib.hid (qtake_c b rest true s_cm wr hi.out.q.p)
           go_wp2_with fail
           refine HT.out.mono ?_
           rintro e wy ⟨rfl, hpy, hay⟩
           have HIy := Lib.hid (hi.out.step hbV hbB hpy hay)
           clear HT hpy hay hi p2 hfz hbl
           cases hR : (takeP s_cm rest).1
           case false =>
            rw [take_no hR] at HIy
            have Hpo := Lib.hid (hj.out.stop (fun _ => hR))
            have Hn := Lib.hid hn.out.1
            clear hj hn hR
            go_wp2_with fail
            go_meet
            exact ⟨acc, v, rest, true, HIy, Lib.hid (by rw [Hag1.out (by first | rfl | trivial)]; exact Hpo.out.map rfl), Hn⟩
           case true =>
            have hlt5 := (take_len s_cm rest).2 hR
            have hjn : ∀ (x : Ag) (l2' : List Tk) (ok2' : Bool), PO true ok2' (aggP (takeP s_cm rest).2) x l2' → SepJ aggP ok7 l8 (acc ++ [x]) l2' ok2' := fun x l2' ok2' h => hj.out.next (fun l a h => Nat.le_of_lt (agg_len h)) hR h
            have Hjn := Lib.hid hjn
            obtain ⟨ly, hly⟩ : ∃ ly, (takeP s_cm rest).2 = ly := ⟨_, rfl⟩
            rw [hly] at HIy Hjn hlt5
            have hn1 := hn.out.1
            have hn2 := hn.out.2 (by first | rfl | trivial)
            have c1 : wy.cell? ⟨V, 8, none⟩ = some v := HIy.out.q.bk.cell 8
            have f1 := HIy.out.q.bk.thaw 8
            have hlV := HIy.out.q.bk.lt
            have hszl := HIy.out.siz
            clear hj hn hR hjn hly
            go_wp2_with fail
            go_region_law (first
             | (refine step_callV rfl 99 #[.pointer (some ⟨b, 0, none⟩)] (by kernel_rfl) (fun v' w' => ∃ (x : Ag) (l' : List Tk) (ok' : Bool), v' = x.w ∧ Pq w' b l' ok' ∧ PO true ok' (aggP ly) x l' ∧ Apq b wy w') ((qagg_c b ly true wy.drew HIy.out.q.p.drew).mono ?_) ?_
                · rintro e wx ⟨x, l', ok', rfl, h1, h2, h3⟩
                  exact .inl ⟨_, rfl, x, l', ok', rfl, h1, h2, (Apq.refl b wy).drew.trans h3⟩
                rintro vx wx ⟨x, lx, okx, rfl, hpx, hpox, hax⟩
                have HIx := Lib.hid (HIy.out.step hbV hbB hpx hax)
                have Hpox := Lib.hid hpox
                have c1' : wx.cell? ⟨V, 8, none⟩ = some v := HIx.out.q.bk.cell 8
                have f1' := HIx.out.q.bk.thaw 8
                have hlV1 := HIx.out.q.bk.lt
                have hszx := HIx.out.siz
                clear hpx hax hpox)
             | (refine step_appG aOk7 rfl (.tmp 108) (.tmp 111) rfl w9.heap.size v acc [x] rfl (HIx.out.own.alloc _) (some ⟨wx.heap.size, 0, none⟩) 1 1 rfl rfl (by simp) (SlG.new aOk7.len [x] rfl) (by first | (simp [maxLen]; done) | (simp [maxLen]; omega)) (by first | (simp; done) | (simp; omega)) (by simp; omega) ?_
                intro g2 cap w7 hv2 hg2
                have HF : Hid (VL b V w9.heap.size W w9 74 2 rdAg (fun v => #[.string nm, .string fr, .string wt, .int .i64 o0, .int .i64 o1, .slice Aw es.length cw, .slice Ap pk.length cp, .bool G, v]) (w7.setCell ⟨V, 8, none⟩ (.slice (some ⟨g2, 0, none⟩) (acc.length + [x].length) cap)) lx okx (.slice (some ⟨g2, 0, none⟩) (acc.length + [x].length) cap) (acc ++ [x])) := Lib.hid (HIx.out.app hbV hbB hVB hg2V 8 (fun _ _ => rfl) hv2 hg2)
                have HV7 : Hid (Bk w7 V #[.string nm, .string fr, .string wt, .int .i64 o0, .int .i64 o1, .slice Aw es.length cw, .slice Ap pk.length cp, .bool G, v] 32) := Lib.hid (((hg2.block V (by simp; omega) (fun e => by have := (HIx.out.own.lt _ e.symm).1; omega)).trans (Below.heap_alloc _ _ V (by omega))).trans HIx.out.q.bk)
                have c1'' : w7.cell? ⟨V, 8, none⟩ = some v := HV7.out.cell 8
                have f1'' := HV7.out.thaw 8
                have hlV2 := HV7.out.lt
                clear hv2 hg2))
            all_goals
             have hlen3 : okx = true → lx.length < ly.length := fun h => agg_len (Hpox.out.2 h)
             have Hlen3 := Lib.hid hlen3
             clear hlen3
             go_wp2
             go_roundw
             case rel => exact ⟨acc ++ [x], lx, okx, _, HF, Lib.hid (Hjn.out x lx okx Hpox.out), Lib.hid ⟨by simp; omega, fun h => by have := Hlen3.out h; simp; omega⟩⟩
             case measure =>
              rw [Hleft.out]
              refine Nat.lt_of_le_of_lt (Nat.le_of_eq HF.out.q.p.left) ?_
              cases okx
              · simp
              · have := Hlen3.out rfl
                simp; omega
      case rest =>
       obtain ⟨ag, av, l9, ok9, hi9, hpo9, hn9⟩ := hcut
       obtain ⟨Ag, ca, hav, hina, hbla⟩ := hi9.out.own.sx aOk7.len
       subst hav
       have hin : (⟨nm, fr, wt, o0, o1, ⟨Aw, es.length, cw, es⟩, ⟨Ap, pk.length, cp, pk⟩, G, ⟨Ag, ag.length, ca, ag⟩⟩ : Vm).In wc := ⟨HinW9.out.same hi9.out.siz fun k hk => hi9.out.keep k (HblW9.out k hk).2 (by have := (HblW9.out k hk).1; omega) (by have := (HblW9.out k hk).1; omega), Hinp9.out.same hi9.out.siz fun k hk => hi9.out.keep k (Hblp9.out k hk).2 (by have := (Hblp9.out k hk).1; omega) (by have := (Hblp9.out k hk).1; omega), hina⟩
       have hlo : (⟨nm, fr, wt, o0, o1, ⟨Aw, es.length, cw, es⟩, ⟨Ap, pk.length, cp, pk⟩, G, ⟨Ag, ag.length, ca, ag⟩⟩ : Vm).Lo (V + 1) := ⟨fun k hk => (HblW9.out k hk).1, fun k hk => (Hblp9.out k hk).1, fun k hk => by have := (hbla k hk).1; omega⟩
       have Hin := Lib.hid hin
       have Hlo := Lib.hid hlo
       have hR := HZ.out.keptq hi9.out.q.a (by omega)
       have t0 : wc.cell? ⟨w.heap.size, 0, none⟩ = some (.string emp) := hR.cell 0
       have t1 : wc.cell? ⟨w.heap.size, 1, none⟩ = some (.string emp) := hR.cell 1
       have t2 : wc.cell? ⟨w.heap.size, 2, none⟩ = some (.string emp) := hR.cell 2
       have t3 : wc.cell? ⟨w.heap.size, 3, none⟩ = some (.int .i64 0) := hR.cell 3
       have t4 : wc.cell? ⟨w.heap.size, 4, none⟩ = some (.int .i64 0) := hR.cell 4
       have t5 : wc.cell? ⟨w.heap.size, 5, none⟩ = some (.slice none 0 0) := hR.cell 5
       have t6 : wc.cell? ⟨w.heap.size, 6, none⟩ = some (.slice none 0 0) := hR.cell 6
       have t7 : wc.cell? ⟨w.heap.size, 7, none⟩ = some (.bool false) := hR.cell 7
       have t8 : wc.cell? ⟨w.heap.size, 8, none⟩ = some (.slice none 0 0) := hR.cell 8
       have z0 := hR.thaw 0
       have z1 := hR.thaw 1
       have z2 := hR.thaw 2
       have z3 := hR.thaw 3
       have z4 := hR.thaw 4
       have z5 := hR.thaw 5
       have z6 := hR.thaw 6
       have z7 := hR.thaw 7
       have z8 := hR.thaw 8
       have hRl := hR.lt
       have HR := Lib.hid hR
       have hbk := hi9.out.q.bk
       have v0 : wc.cell? ⟨V, 0, none⟩ = some (.string nm) := hbk.cell 0
       have v1 : wc.cell? ⟨V, 1, none⟩ = some (.string fr) := hbk.cell 1
       have v2 : wc.cell? ⟨V, 2, none⟩ = some (.string wt) := hbk.cell 2
       have v3 : wc.cell? ⟨V, 3, none⟩ = some (.int .i64 o0) := hbk.cell 3
       have v4 : wc.cell? ⟨V, 4, none⟩ = some (.int .i64 o1) := hbk.cell 4
       have v5 : wc.cell? ⟨V, 5, none⟩ = some (.slice Aw es.length cw) := hbk.cell 5
       have v6 : wc.cell? ⟨V, 6, none⟩ = some (.slice Ap pk.length cp) := hbk.cell 6
       have v7 : wc.cell? ⟨V, 7, none⟩ = some (.bool G) := hbk.cell 7
       have v8 : wc.cell? ⟨V, 8, none⟩ = some (.slice Ag ag.length ca) := hbk.cell 8
       have hVl := hbk.lt
       obtain ⟨p2, hfz⟩ := hi9.out.q.p.ok
       have hbl := hi9.out.q.p.lt
       have hne : ¬ w.heap.size = V := by omega
       have hne2 : ¬ V = w.heap.size := by omega
       have hne3 : ¬ b = V := by omega
       have hne4 : ¬ V = b := by omega
       have hne5 : ¬ b = w.heap.size := by omega
       have hne6 : ¬ w.heap.size = b := by omega
       have hpoF : ∀ okf, PO ok9 okf (if pk.length ≤ 40 ∧ ag.length ≤ 40 then some ((⟨nm, fr, wt, o0, o1, es, pk, G, ag⟩ : Vw), l9) else none) (⟨nm, fr, wt, o0, o1, es, pk, G, ag⟩ : Vw) l9 → ∃ o, ViewQ b w ok o = S ∧ PO ok okf o (⟨nm, fr, wt, o0, o1, es, pk, G, ag⟩ : Vw) l9 := by
        intro okf h
        refine ⟨_, HS.out, Hpo1.out.bind (PO.need ?_)⟩
        show PO (ok1 && (takeP w_from l1).1) okf _ _ _
        rw [Hl2.out, Hok2.out]
        refine Hpo3.out.bind (hpo4.out.bind (hpo5.out.bind (PO.need ?_)))
        show PO (ok5 && (takeP w_pick l5).1) okf _ _ _
        rw [Hl6.out, Hok6.out]
        exact hpo7.out.bind (hpo9.out.bind h)
       have HpoF := Lib.hid hpoF
       clear hpoF hR hin hlo hpo9 hn9 hina hbla hbk HL HinW9 Hinp9 HblW9 Hblp9 Hag0 Hag1
       by_cases h40 : pk.length ≤ 40
       · have d1 : ¬ (40 : Int) < (pk.length : Int) := by omega
         by_cases k40 : ag.length ≤ 40
         · have d2 : ¬ (40 : Int) < (ag.length : Int) := by omega
           obtain ⟨o, ho, hpo⟩ := HpoF.out ok9 (by rw [if_pos ⟨h40, k40⟩]; exact PO.ret ok9 _ _)
           have Hfin := Lib.hid (And.intro ho hpo)
           clear ho hpo HpoF h40 k40
           go_wp2
           refine ret_vw (b := w.heap.size) (x := ⟨nm, fr, wt, o0, o1, ⟨Aw, es.length, cw, es⟩, ⟨Ap, pk.length, cp, pk⟩, G, ⟨Ag, ag.length, ca, ag⟩⟩) Tryz.results63 rfl (HR.out.put [.string nm, .string fr, .string wt, .int .i64 o0, .int .i64 o1, .slice Aw es.length cw, .slice Ap pk.length cp, .bool G, .slice Ag ag.length ca] rfl) rfl ?_
           rw [← Hfin.out.1]
           exact ⟨⟨nm, fr, wt, o0, o1, ⟨Aw, es.length, cw, es⟩, ⟨Ap, pk.length, cp, pk⟩, G, ⟨Ag, ag.length, ca, ag⟩⟩, l9, ok9, rfl, Hin.out.same' (by simp [World.setCell]) Hlo.out (fun k hk _ => putL_heap [.string nm, .string fr, .string wt, .int .i64 o0, .int .i64 o1, .slice Aw es.length cw, .slice Ap pk.length cp, .bool G, .slice Ag ag.length ca] wc w.heap.size 0 k (by omega)), Hlo.out.mono (by omega), hi9.out.q.p.put Hb.out 0 [.string nm, .string fr, .string wt, .int .i64 o0, .int .i64 o1, .slice Aw es.length cw, .slice Ap pk.length cp, .bool G, .slice Ag ag.length ca], Hfin.out.2, (HA.out.trans hi9.out.q.a).put (Nat.le_refl _) 0 [.string nm, .string fr, .string wt, .int .i64 o0, .int .i64 o1, .slice Aw es.length cw, .slice Ap pk.length cp, .bool G, .slice Ag ag.length ca]⟩
         · have d2 : (40 : Int) < (ag.length : Int) := by omega
           obtain ⟨o, ho, hpo⟩ := HpoF.out false (by rw [if_neg (fun h => k40 h.2)]; exact po_none ok9 rfl)
           have Hfin := Lib.hid (And.intro ho hpo)
           clear ho hpo HpoF h40 k40
           go_wp2
           refine ret_vw (b := w.heap.size) (x := ⟨nm, fr, wt, o0, o1, ⟨Aw, es.length, cw, es⟩, ⟨Ap, pk.length, cp, pk⟩, G, ⟨Ag, ag.length, ca, ag⟩⟩) Tryz.results63 rfl ((HR.out.keptq ((Apq.refl b wc).set 2 (.bool false)) (by omega)).put [.string nm, .string fr, .string wt, .int .i64 o0, .int .i64 o1, .slice Aw es.length cw, .slice Ap pk.length cp, .bool G, .slice Ag ag.length ca] rfl) rfl ?_
           rw [← Hfin.out.1]
           exact ⟨⟨nm, fr, wt, o0, o1, ⟨Aw, es.length, cw, es⟩, ⟨Ap, pk.length, cp, pk⟩, G, ⟨Ag, ag.length, ca, ag⟩⟩, l9, false, rfl, Hin.out.same' (by simp [World.setCell]) Hlo.out (fun k hk _ => (putL_heap [.string nm, .string fr, .string wt, .int .i64 o0, .int .i64 o1, .slice Aw es.length cw, .slice Ap pk.length cp, .bool G, .slice Ag ag.length ca] (wc.setCell ⟨b, 2, none⟩ (.bool false)) w.heap.size 0 k (by omega)).trans (Below.heap_setCell _ _ _ _ (show k ≠ b by omega))), Hlo.out.mono (by omega), (hi9.out.q.p.not false).put Hb.out 0 [.string nm, .string fr, .string wt, .int .i64 o0, .int .i64 o1, .slice Aw es.length cw, .slice Ap pk.length cp, .bool G, .slice Ag ag.length ca], Hfin.out.2, ((HA.out.trans hi9.out.q.a).set 2 (.bool false)).put (Nat.le_refl _) 0 [.string nm, .string fr, .string wt, .int .i64 o0, .int .i64 o1, .slice Aw es.length cw, .slice Ap pk.length cp, .bool G, .slice Ag ag.length ca]⟩
       · have d1 : (40 : Int) < (pk.length : Int) := by omega
         obtain ⟨o, ho, hpo⟩ := HpoF.out false (by rw [if_neg (fun h => h40 h.1)]; exact po_none ok9 rfl)
         have Hfin := Lib.hid (And.intro ho hpo)
         clear ho hpo HpoF h40
         go_wp2
         refine ret_vw (b := w.heap.size) (x := ⟨nm, fr, wt, o0, o1, ⟨Aw, es.length, cw, es⟩, ⟨Ap, pk.length, cp, pk⟩, G, ⟨Ag, ag.length, ca, ag⟩⟩) Tryz.results63 rfl ((HR.out.keptq ((Apq.refl b wc).set 2 (.bool false)) (by omega)).put [.string nm, .string fr, .string wt, .int .i64 o0, .int .i64 o1, .slice Aw es.length cw, .slice Ap pk.length cp, .bool G, .slice Ag ag.length ca] rfl) rfl ?_
         rw [← Hfin.out.1]
         exact ⟨⟨nm, fr, wt, o0, o1, ⟨Aw, es.length, cw, es⟩, ⟨Ap, pk.length, cp, pk⟩, G, ⟨Ag, ag.length, ca, ag⟩⟩, l9, false, rfl, Hin.out.same' (by simp [World.setCell]) Hlo.out (fun k hk _ => (putL_heap [.string nm, .string fr, .string wt, .int .i64 o0, .int .i64 o1, .slice Aw es.length cw, .slice Ap pk.length cp, .bool G, .slice Ag ag.length ca] (wc.setCell ⟨b, 2, none⟩ (.bool false)) w.heap.size 0 k (by omega)).trans (Below.heap_setCell _ _ _ _ (show k ≠ b by omega))), Hlo.out.mono (by omega), (hi9.out.q.p.not false).put Hb.out 0 [.string nm, .string fr, .string wt, .int .i64 o0, .int .i64 o1, .slice Aw es.length cw, .slice Ap pk.length cp, .bool G, .slice Ag ag.length ca], Hfin.out.2, ((HA.out.trans hi9.out.q.a).set 2 (.bool false)).put (Nat.le_refl _) 0 [.string nm, .string fr, .string wt, .int .i64 o0, .int .i64 o1, .slice Aw es.length cw, .slice Ap pk.length cp, .bool G, .slice Ag ag.length ca]⟩
end Go.Proofs.YtjgpmnffagdhlaaGreatDoor
namespace Go.Proofs.YtjgpmnffagdhlaaGreatDoor
open Go Go.RowKit
set_option maxRecDepth 100000
def nxN (m : Bool) (a : Int) (c : UInt8) : Int := if m then a * 10 - (c.toNat - 48 : Nat) else a * 10 + (c.toNat - 48 : Nat)
def stpN (m : Bool) (o : Option Int) (c : UInt8) : Option Int :=
 if c = 45 then o else o.bind fun a => if (-9223372036854775808 ≤ a * 10 ∧ a * 10 ≤ 9223372036854775807) ∧ (-9223372036854775808 ≤ nxN m a c ∧ nxN m a c ≤ 9223372036854775807) then some (nxN m a c) else none
def runN (m : Bool) (l : List UInt8) : Option Int := l.foldl (stpN m) (some 0)
def stN (o : Option Int) : Val := match o with | some a => iv a | none => nl
theorem step_in {m : Bool} {o : Option Int} {c : UInt8} (h : ∀ a, o = some a → in64 a) : ∀ a, stpN m o c = some a → in64 a := by
 intro a ha
 unfold stpN at ha
 split at ha
 · exact h a ha
 · cases o with
   | none => cases ha
   | some b =>
     rw [Option.bind_some] at ha
     split at ha
     · rename_i hc; rw [← Option.some.inj ha]; exact hc.2
     · cases ha
theorem runN_in (m : Bool) (l : List UInt8) : ∀ a, runN m l = some a → in64 a := by
 have gen : ∀ (l : List UInt8) (o : Option Int), (∀ a, o = some a → in64 a) → ∀ a, l.foldl (stpN m) o = some a → in64 a := by
  intro l
  induction l with
  | nil => intro o h a ha; exact h a ha
  | cons c l ih => intro o h a ha; exact ih _ (step_in h) a ha
 exact gen l (some 0) (fun a ha => by rw [← Option.some.inj ha]; unfold in64; omega)
theorem run_snoc (m : Bool) (l : List UInt8) (c : UInt8) : runN m (l ++ [c]) = stpN m (runN m l) c := by
 unfold runN; rw [List.foldl_append]; rfl
theorem sub_outN {a b : Int} (ha : in64 a) (hb : in64 b) (h : ¬ in64 (a - b)) : subR (iv a) (iv b) = (nl, false) := by
 have hs : (decide (wrap64 (a - b) < a) == decide (0 < b)) = false := by
  unfold in64 at *
  have hw := w64 (a - b)
  rw [beq_eq_false_iff_ne]
  intro he
  rw [decide_eq_decide] at he
  by_cases hb0 : 0 < b
  · have := he.2 hb0; omega
  · have : ¬ wrap64 (a - b) < a := fun hh => hb0 (he.1 hh); omega
 unfold subR
 rw [comp_iv]
 have e : (decide (wrap64 ((iv a).n - (iv b).n) < (iv a).n) == decide (0 < (iv b).n)) = false := hs
 rw [e]; rfl
theorem step_val {m : Bool} {o : Option Int} {c : UInt8} (ho : ∀ a, o = some a → in64 a) (h1 : 48 ≤ c.toNat) (h2 : c.toNat ≤ 57) :
 let w := mulR (stN o) (iv 10)
 let x := if m then subR w.1 (iv (c.toNat - 48 : Nat)) else addR w.1 (iv (c.toNat - 48 : Nat))
 x.1 = stN (stpN m o c) ∧ (o.isSome && (w.2 && x.2)) = (stpN m o c).isSome := by
 have hc : c ≠ 45 := by rintro rfl; revert h1; decide
 have hd : in64 ((c.toNat - 48 : Nat) : Int) := by unfold in64; omega
 unfold stpN
 rw [if_neg hc]
 have nn : ∀ d : Int, addR nl (iv d) = (nl, true) ∧ subR nl (iv d) = (nl, true) := fun d => ⟨rfl, rfl⟩
 cases o with
 | none =>
   have e : mulR (stN none) (iv 10) = (nl, true) := rfl
   simp only [e, nn]
   cases m <;> simp [stN]
 | some a =>
   have ha := ho a rfl
   have hs : stN (some a) = iv a := rfl
   simp only [hs, Option.bind_some]
   by_cases hm : in64 (a * 10)
   · rw [mul_in (a := a) (b := 10) (by unfold in64; omega) hm]
     simp only
     cases m
     · have en : nxN false a c = a * 10 + (c.toNat - 48 : Nat) := rfl
       rw [en]
       simp only [Bool.false_eq_true, if_false]
       by_cases hx : in64 (a * 10 + (c.toNat - 48 : Nat))
       · rw [if_pos ⟨hm, hx⟩]
         simp [add_in hx, stN]
       · rw [if_neg (fun h => hx h.2)]
         simp [add_out hm hd hx, stN]
     · have en : nxN true a c = a * 10 - (c.toNat - 48 : Nat) := rfl
       rw [en]
       simp only [if_true]
       by_cases hx : in64 (a * 10 - (c.toNat - 48 : Nat))
       · rw [if_pos ⟨hm, hx⟩]
         simp [sub_in hx, stN]
       · rw [if_neg (fun h => hx h.2)]
         simp [sub_outN hm hd hx, stN]
   · have hcn : ¬ ((-9223372036854775808 ≤ a * 10 ∧ a * 10 ≤ 9223372036854775807) ∧ (-9223372036854775808 ≤ nxN m a c ∧ nxN m a c ≤ 9223372036854775807)) := fun h => hm h.1
     rw [mul_out ha hm, if_neg hcn]
     simp only [nn]
     cases m <;> simp [stN]
theorem run_digits : ∀ (l : List UInt8) (a : Nat), (∀ c ∈ l, 48 ≤ c.toNat ∧ c.toNat ≤ 57) → (l.foldl (fun a c => a * 10 + (c.toNat - 48)) a) ≤ 9223372036854775807 → l.foldl (stpN false) (some (a : Int)) = some ((l.foldl (fun a c => a * 10 + (c.toNat - 48)) a : Nat) : Int)
 | [], a, _, _ => rfl
 | c :: l, a, h, hlt => by
   rw [List.foldl_cons] at hlt ⊢
   have hg := fold_ge l (a * 10 + (c.toNat - 48))
   have hc := h c (by simp)
   have hne : c ≠ 45 := by rintro rfl; exact absurd hc.1 (by decide)
   have e : stpN false (some (a : Int)) c = some ((a * 10 + (c.toNat - 48) : Nat) : Int) := by
    unfold stpN
    rw [if_neg hne, Option.bind_some]
    have en : nxN false (a : Int) c = (a : Int) * 10 + (c.toNat - 48 : Nat) := rfl
    rw [en, if_pos (by omega)]
    congr 1
   rw [e, run_digits l _ (fun d hd => h d (List.mem_cons_of_mem _ hd)) hlt, List.foldl_cons]
theorem run_digits_neg : ∀ (l : List UInt8) (a : Nat), (∀ c ∈ l, 48 ≤ c.toNat ∧ c.toNat ≤ 57) → (l.foldl (fun a c => a * 10 + (c.toNat - 48)) a) ≤ 9223372036854775808 → l.foldl (stpN true) (some (-(a : Int))) = some (-((l.foldl (fun a c => a * 10 + (c.toNat - 48)) a : Nat) : Int))
 | [], a, _, _ => rfl
 | c :: l, a, h, hlt => by
   rw [List.foldl_cons] at hlt ⊢
   have hg := fold_ge l (a * 10 + (c.toNat - 48))
   have hc := h c (by simp)
   have hne : c ≠ 45 := by rintro rfl; exact absurd hc.1 (by decide)
   have e : stpN true (some (-(a : Int))) c = some (-((a * 10 + (c.toNat - 48) : Nat) : Int)) := by
    unfold stpN
    rw [if_neg hne, Option.bind_some]
    have en : nxN true (-(a : Int)) c = -(a : Int) * 10 - (c.toNat - 48 : Nat) := rfl
    rw [en, if_pos (by omega)]
    congr 1
    omega
   rw [e, run_digits_neg l _ (fun d hd => h d (List.mem_cons_of_mem _ hd)) hlt, List.foldl_cons]
theorem run_itoa {v : Int} (h : in64 v) : runN (decide (v < 0)) (Lib.itoa v) = some v := by
 unfold in64 at h
 unfold Lib.itoa runN
 by_cases hv : v < 0
 · rw [if_pos hv, decide_eq_true hv, List.foldl_cons]
   have hn := num_dec v.natAbs
   unfold num at hn
   have := run_digits_neg (Lib.decDigits v.natAbs) 0 (dec_all _) (by rw [hn]; omega)
   rw [hn] at this
   rw [show stpN true (some 0) 45 = some (-((0 : Nat) : Int)) from rfl, this]
   congr 1
   omega
 · rw [if_neg hv, decide_eq_false hv]
   have hn := num_dec v.toNat
   unfold num at hn
   have := run_digits (Lib.decDigits v.toNat) 0 (dec_all _) (by rw [hn]; omega)
   rw [hn] at this
   rw [show (some (0 : Int)) = some ((0 : Nat) : Int) from rfl, this]
   congr 1
   omega
theorem num_run {l : List UInt8} {c : UInt8} {r : List UInt8} (hl : l = c :: r) (o : Option Int) (ho : o = runN (decide (c = 45)) l) :
 numT l = (match o with | some a => if Lib.itoa a = l then some (intT a) else none | none => none) := by
 have key : ∀ v, numT l = some (intT v) → in64 v ∧ Lib.itoa v = l := by
  intro v hv
  unfold numT at hv
  split at hv
  · rename_i u hu
    split at hv
    · rename_i he
      have h := Option.some.inj hv
      have e : u = v := by unfold intT iv at h; injection h with _ _ h3; injection h3
      rw [← e]
      exact ⟨atoi_64 hu, he⟩
    · cases hv
  · cases hv
 have back : ∀ v, in64 v → Lib.itoa v = l → o = some v := by
  intro v h he
  have h1 := run_itoa h
  rw [he] at h1
  have h2 : decide (c = 45) = decide (v < 0) := by
   have he2 := he
   unfold Lib.itoa at he2
   by_cases hv : v < 0
   · rw [if_pos hv, hl] at he2
     rw [decide_eq_true hv, decide_eq_true]
     injection he2 with h3 _
     exact h3.symm
   · rw [if_neg hv] at he2
     obtain ⟨c', l', hl', h4, h5⟩ := dec_head v.toNat
     rw [hl', hl] at he2
     injection he2 with h3 _
     rw [decide_eq_false hv, decide_eq_false]
     rintro rfl
     rw [h3] at h4
     exact absurd h4 (by decide)
  rw [ho, h2, h1]
 have some_int : ∀ t, numT l = some t → ∃ v, t = intT v := by
  intro t ht
  unfold numT at ht
  split at ht
  · split at ht
    · exact ⟨_, (Option.some.inj ht).symm⟩
    · cases ht
  · cases ht
 cases o with
 | none =>
   simp only
   cases hq : numT l with
   | none => rfl
   | some t =>
     obtain ⟨v, rfl⟩ := some_int t hq
     obtain ⟨h1, h2⟩ := key v hq
     cases back v h1 h2
 | some a =>
   simp only
   have ha : in64 a := runN_in _ _ a ho.symm
   by_cases he : Lib.itoa a = l
   · rw [if_pos he, ← he]
     exact num_itoa a ha
   · rw [if_neg he]
     cases hq : numT l with
     | none => rfl
     | some t =>
       obtain ⟨v, rfl⟩ := some_int t hq
       obtain ⟨h1, h2⟩ := key v hq
       have := Option.some.inj (back v h1 h2)
       rw [← this] at h2
       exact absurd h2 he
def NlInt (x : Val) : Prop := (x.k == 0) = true ∨ ((x.k == 0) = false ∧ (x.k == 2) = true)
theorem NlInt.nl : NlInt nl := .inl rfl
theorem NlInt.iv (n : Int) : NlInt (iv n) := .inr ⟨rfl, rfl⟩
theorem NlInt.mul10 {o : Option Int} (h : ∀ a, o = some a → in64 a) : NlInt (mulR (stN o) (Go.Proofs.YtjgpmnffagdhlaaGreatDoor.iv 10)).1 := by
 cases o with
 | none => exact NlInt.nl
 | some a =>
   show NlInt (mulR (Go.Proofs.YtjgpmnffagdhlaaGreatDoor.iv a) (Go.Proofs.YtjgpmnffagdhlaaGreatDoor.iv 10)).1
   by_cases hm : in64 (a * 10)
   · rw [mul_in (a := a) (b := 10) (by unfold in64; omega) hm]; exact NlInt.iv _
   · rw [mul_out (h a rfl) hm]; exact NlInt.nl
theorem NlInt.stN (o : Option Int) : NlInt (stN o) := by
 cases o with
 | none => exact NlInt.nl
 | some a => exact NlInt.iv a
theorem rmul10_c (x : Val) (w : World) (hk : NlInt x) (hx : I6n x.n) : Calls Tryz.prog 134 #[x.v, (iv 10).v] w fun e w' => e = .returned (.tuple #[(mulR x (iv 10)).1.v, .bool (mulR x (iv 10)).2]) ∧ Below w.heap.size w w' := by
 rcases hk with hk | ⟨hk0, hk2⟩
 · have h0 : (x.k == 0 || (iv 10).k == 0) = true := by rw [hk]; rfl
   unfold mulR
   rw [comp_nulls x (iv 10) _ _ h0]
   exact rmul_null x (iv 10) w h0
 · have h0 : (x.k == 0 || (iv 10).k == 0) = false := by rw [hk0]; rfl
   have h12 : (x.k == 2 && (iv 10).k == 2) = true := by rw [hk2]; rfl
   have h37 : ((iv 10).n == -1) = false := rfl
   have hb : ((iv 10).n == 0) = false := rfl
   have h32 : ((iv 10).n == -9223372036854775808) = false := rfl
   have hy : I6n (iv 10).n := by unfold I6n iv; simp
   have hB : ((iv 10).n == -1 && x.n == -9223372036854775808) = false := by rw [h37]; rfl
   rw [mulR_ints x (iv 10) h0 h12]
   cases ha : (x.n == 0)
   · by_cases h : I6n (x.n * (iv 10).n)
     · obtain ⟨e1, e2, e3⟩ := quo_in x.n (iv 10).n hx hb h
       rw [mul_in hy h]
       have hq : (wrap64 ((wrap64 (x.n * (iv 10).n)).tdiv (iv 10).n) != x.n) = false := by rw [e1, e2]; simp
       have hr : ((wrap64 (x.n * (iv 10).n)).tmod (iv 10).n != 0) = false := by rw [e1, e3]; rfl
       cases h27 : (x.n == -1)
       · have := rmul_F4ok x (iv 10) w h0 h12 ha hb h27 h37 hq hr
         rw [e1] at this
         exact this
       · have := rmul_F2ok x (iv 10) w h0 h12 ha hb h27 h32 h37 hq hr
         rw [e1] at this
         exact this
     · rw [mul_out hx h]
       have hq : (wrap64 ((wrap64 (x.n * (iv 10).n)).tdiv (iv 10).n) != x.n) = true := by rw [bne, quo_out x.n (iv 10).n hy hb hB h]; rfl
       have h27 : (x.n == -1) = false := by
        cases h27 : (x.n == -1)
        · rfl
        · exfalso
          apply h
          have : x.n = -1 := by simpa using h27
          rw [this]
          unfold I6n iv
          simp
       exact rmul_F4q x (iv 10) w h0 h12 ha hb h27 h37 hq
   · have e : x.n = 0 := by simpa using ha
     rw [mul_in hy (by rw [e, Int.zero_mul]; unfold in64; omega), e, Int.zero_mul]
     exact rmul_Z1 x (iv 10) w h0 h12 ha
theorem raddD_c (x : Val) (d : Nat) (w : World) (hk : NlInt x) (hx : I6n x.n) (hd : d ≤ 9) : Calls Tryz.prog 135 #[x.v, (iv (d : Int)).v] w fun e w' => e = .returned (.tuple #[(addR x (iv (d : Int))).1.v, .bool (addR x (iv (d : Int))).2]) ∧ Below w.heap.size w w' := by
 obtain ⟨y, hyd⟩ : ∃ y, iv (d : Int) = y := ⟨_, rfl⟩
 have hyk : y.k = 2 := by rw [← hyd]; rfl
 have hyn : 0 ≤ y.n ∧ y.n ≤ 9 := by rw [← hyd]; show 0 ≤ (d : Int) ∧ (d : Int) ≤ 9; omega
 rw [hyd]
 clear hyd
 have hy : I6n y.n := by unfold I6n; omega
 unfold addR
 rcases hk with hk | ⟨hk0, hk2⟩
 · have h0 : (x.k == 0 || y.k == 0) = true := by rw [hk]; rfl
   rw [comp_nulls x y _ _ h0]
   exact radd_null x y w h0
 · have h0 : (x.k == 0 || y.k == 0) = false := by rw [hk0, hyk]; rfl
   have h12 : (x.k == 2 && y.k == 2) = true := by rw [hk2, hyk]; rfl
   rw [comp_ints x y _ _ h0 h12]
   obtain ⟨F, hF⟩ : ∃ F, (decide (x.n < wrap64 (x.n + y.n)) == decide (0 < y.n)) = F := ⟨_, rfl⟩
   rw [hF]
   have over : ¬ I6n (x.n + y.n) → F = false := fun h => by rw [← hF]; exact add_over x.n y.n hx hy h
   have fit : I6n (x.n + y.n) → F = true := fun h => by rw [← hF]; exact (add_fit x.n y.n h).1
   clear hF
   unfold I6n at hx hy over fit
   cases h17 : decide (0 < y.n)
   · have h31 : decide (y.n < 0) = false := by simp; omega
     obtain rfl := fit (by simp at h17; omega)
     exact radd_Z x y w h0 h12 h17 h31
   · have e24 : wrap64 (9223372036854775807 - y.n) = 9223372036854775807 - y.n := by simp at h17; unfold wrap64; omega
     cases h25 : decide (wrap64 (9223372036854775807 - y.n) < x.n)
     · obtain rfl := fit (by rw [e24] at h25; simp at h17 h25; omega)
       exact radd_P0 x y w h0 h12 h17 h25 (by simp at h17 ⊢; omega)
     · obtain rfl := over (by rw [e24] at h25; simp at h17 h25; omega)
       exact radd_P1 x y w h0 h12 h17 h25
theorem rsubD_c (x : Val) (d : Nat) (w : World) (hk : NlInt x) (hx : I6n x.n) (hd : d ≤ 9) : Calls Tryz.prog 136 #[x.v, (iv (d : Int)).v] w fun e w' => e = .returned (.tuple #[(subR x (iv (d : Int))).1.v, .bool (subR x (iv (d : Int))).2]) ∧ Below w.heap.size w w' := by
 obtain ⟨y, hyd⟩ : ∃ y, iv (d : Int) = y := ⟨_, rfl⟩
 have hyk : y.k = 2 := by rw [← hyd]; rfl
 have hyn : 0 ≤ y.n ∧ y.n ≤ 9 := by rw [← hyd]; show 0 ≤ (d : Int) ∧ (d : Int) ≤ 9; omega
 rw [hyd]
 clear hyd
 have hy : I6n y.n := by unfold I6n; omega
 unfold subR
 rcases hk with hk | ⟨hk0, hk2⟩
 · have h0 : (x.k == 0 || y.k == 0) = true := by rw [hk]; rfl
   rw [comp_nulls x y _ _ h0]
   exact rsub_null x y w h0
 · have h0 : (x.k == 0 || y.k == 0) = false := by rw [hk0, hyk]; rfl
   have h12 : (x.k == 2 && y.k == 2) = true := by rw [hk2, hyk]; rfl
   rw [comp_ints x y _ _ h0 h12]
   obtain ⟨F, hF⟩ : ∃ F, (decide (wrap64 (x.n - y.n) < x.n) == decide (0 < y.n)) = F := ⟨_, rfl⟩
   rw [hF]
   have over : ¬ I6n (x.n - y.n) → F = false := fun h => by rw [← hF]; exact sub_over x.n y.n hx hy h
   have fit : I6n (x.n - y.n) → F = true := fun h => by rw [← hF]; exact (sub_fit x.n y.n h).1
   clear hF
   unfold I6n at hx hy over fit
   have h17 : decide (y.n < 0) = false := by simp; omega
   cases h31 : decide (0 < y.n)
   · obtain rfl := fit (by simp at h31; omega)
     exact rsub_Z x y w h0 h12 h17 h31
   · have e38 : wrap64 ((-9223372036854775808) + y.n) = (-9223372036854775808) + y.n := by simp at h31; unfold wrap64; omega
     cases h39 : decide (x.n < wrap64 ((-9223372036854775808) + y.n))
     · obtain rfl := fit (by rw [e38] at h39; simp at h31 h39; omega)
       exact rsub_Q0 x y w h0 h12 h17 h31 h39
     · obtain rfl := over (by rw [e38] at h39; simp at h31 h39; omega)
       exact rsub_Q1 x y w h0 h12 h17 h31 h39
theorem n64_nl : I6n nl.n := by unfold I6n nl; simp
theorem st_in {o : Option Int} (h : ∀ a, o = some a → in64 a) : I6n (stN o).n := by
 cases o with
 | none => exact n64_nl
 | some a => exact h a rfl
theorem mul_in10 {o : Option Int} (h : ∀ a, o = some a → in64 a) : I6n (mulR (stN o) (iv 10)).1.n := by
 cases o with
 | none => exact n64_nl
 | some a =>
   have hs : stN (some a) = iv a := rfl
   rw [hs]
   by_cases hm : in64 (a * 10)
   · rw [mul_in (a := a) (b := 10) (by unfold in64; omega) hm]; exact hm
   · rw [mul_out (h a rfl) hm]; exact n64_nl
def numO (m : Bool) (l : List UInt8) : Int × Bool := match runN m l with | some a => (a, decide (Lib.itoa a = l)) | none => (0, false)
abbrev BkV (w : World) (b : Nat) (v : Val) : Prop := Bk w b #[.int .i64 v.k, .int .i64 v.n, .string v.s] 59
theorem u8_sub {x : UInt8} (h1 : 48 ≤ x.toNat) (h2 : x.toNat ≤ 57) : IntKind.u8.wrap ((x.toNat : Int) - 48) = ((x.toNat - 48 : Nat) : Int) := by
 rw [IntKind.wrap_u8]
 omega
theorem bk_al {w : World} {b : Nat} {cs : Array Value} {T : TypeId} (h : Bk w b cs T) (o : Obj) : Bk (w.alloc o) b cs T := Bk.after h (below_one w o) h.lt
theorem below_put0 {B : Nat} {w u : World} {b : Nat} (h : Below B w u) (hB : B ≤ b) (vs : List Value) (j : Nat) : Below B w (putL u b j vs) :=
 ⟨(putL_io vs u b j).1.trans h.os, (putL_io vs u b j).2.1.trans h.tape, (putL_io vs u b j).2.2.trans h.output, by rw [putL_size]; exact h.size, fun k hk => (putL_heap vs u b j k (by omega)).trans (h.block k hk)⟩
set_option maxHeartbeats 16000000 in
theorem rnumber_c (c : UInt8) (r : List UInt8) (w : World) (hl : (c :: r).length ≤ 20000) (hd : ∀ x ∈ c :: r, x = 45 ∨ (48 ≤ x.toNat ∧ x.toNat ≤ 57)) :
 Calls Tryz.prog 90 #[.string (ba (c :: r))] w fun e w' => e = .returned (.tuple #[.int .i64 (numO (decide (c = 45)) (c :: r)).1, .bool (numO (decide (c = 45)) (c :: r)).2]) ∧ Below w.heap.size w w' := by
 obtain ⟨R, hR⟩ : ∃ R, numO (decide (c = 45)) (c :: r) = R := ⟨_, rfl⟩
 rw [hR]
 have HR := Lib.hid hR
 have Hd := Lib.hid hd
 have H0 : Hid (∀ h, (ba (c :: r))[0]'h = c) := Lib.hid (fun h => ba_get (k := 0) rfl h)
 have hm0 : ((c.toNat : Int) == 45) = decide (c = 45) := by
  rw [Bool.eq_iff_iff]
  simp only [beq_iff_eq, decide_eq_true_eq]
  constructor
  · intro h; exact UInt8.toNat_inj.1 (by show c.toNat = 45; omega)
  · rintro rfl; rfl
 obtain ⟨m, hm⟩ : ∃ m, decide (c = 45) = m := ⟨_, rfl⟩
 rw [hm] at HR hm0
 obtain ⟨L, hL⟩ : ∃ L, c :: r = L := ⟨_, rfl⟩
 have hL1 : 1 ≤ L.length := by rw [← hL]; simp
 rw [hL] at H0 HR Hd hl ⊢
 obtain ⟨W, hW⟩ : ∃ W, w.alloc (.cells #[.int .i64 2, .int .i64 0, .string ⟨#[]⟩] 59) = W := ⟨_, rfl⟩
 have HB0 : Hid (Below w.heap.size w W) := Lib.hid (by rw [← hW]; exact below_one w _)
 have HK0 : Hid (BkV W w.heap.size (iv 0)) := Lib.hid (by rw [← hW]; exact Bk.new w _ _)
 have HW := Lib.hid hW
 clear hR hd hL hm hW
 go_enter Tryz.func90, Tryz.ntmps90
 go_wp2_with (rw [H0.out])
 clear hm0
 go_loopw [7, 6] (fun i z wr => ∃ k : Nat, k ≤ L.length ∧ i = .int .i64 k ∧ z = .bool (runN m (L.take k)).isSome ∧ Hid (BkV wr w.heap.size (stN (runN m (L.take k)))) ∧ Hid (Below w.heap.size w wr)) (fun i _ _ => L.length - (intOf i).toNat)
 case atStart =>
  rw [HW.out]
  exact ⟨0, Nat.zero_le _, rfl, rfl, HK0, HB0⟩
 case round =>
  obtain ⟨k, hk, rfl, rfl, hK, hb⟩ := hrel
  have hsz := hb.out.size
  have hlw := hK.out.lt
  by_cases hlt2 : k < L.length
  · obtain ⟨x, hx⟩ : ∃ x, L[k]? = some x := ⟨_, List.getElem?_eq_getElem hlt2⟩
    have Hx := Lib.hid hx
    have Hg := Lib.hid (ba_get hx (by show k < L.toArray.size; simpa using hlt2))
    have htk : L.take (k + 1) = L.take k ++ [x] := by rw [List.take_add_one, hx]; rfl
    have HS : Hid (runN m (L.take (k + 1)) = stpN m (runN m (L.take k)) x) := Lib.hid (by rw [htk, run_snoc])
    obtain ⟨o, ho⟩ : ∃ o, runN m (L.take k) = o := ⟨_, rfl⟩
    have Hin : Hid (∀ a, o = some a → in64 a) := Lib.hid (fun a h => runN_in m (L.take k) a (ho.trans h))
    rw [ho] at hK HS ⊢
    have hxd := Hd.out x (List.mem_of_getElem? hx)
    clear hx htk ho
    by_cases h45 : x = 45
    · have hx45 : ((x.toNat : Int) == 45) = true := by rw [h45]; rfl
      have HS2 : Hid (runN m (L.take (k + 1)) = o) := Lib.hid (by rw [HS.out]; unfold stpN; rw [if_pos h45])
      clear HS h45 hxd
      go_wp2_with (rw [Hg.out])
      go_roundw
      case rel => exact ⟨k + 1, by omega, by go_num, by rw [HS2.out], by rw [HS2.out]; exact hK, hb⟩
      case measure => simp [intOf]; omega
    · have hdig : 48 ≤ x.toNat ∧ x.toNat ≤ 57 := by rcases hxd with h | h; exact absurd h h45; exact h
      have hx45 : ((x.toNat : Int) == 45) = false := by
       simp only [beq_eq_false_iff_ne, ne_eq]
       intro h
       omega
      have hsub := u8_sub hdig.1 hdig.2
      have hstep := step_val (m := m) Hin.out hdig.1 hdig.2
      simp only at hstep
      obtain ⟨D, hD⟩ : ∃ D : Nat, x.toNat - 48 = D := ⟨_, rfl⟩
      have hDl : D ≤ 9 := by omega
      rw [hD] at hsub hstep
      have HDi := Lib.hid (fun u : World => rint_c (D : Int) u)
      have H10 := Lib.hid (fun u : World => rint_c 10 u)
      have HM := Lib.hid (fun u : World => rmul10_c (stN o) u (NlInt.stN o) (st_in Hin.out))
      have Hmi := Lib.hid (mul_in10 Hin.out)
      have Hki := Lib.hid (NlInt.mul10 Hin.out)
      obtain ⟨⟨p1, p2⟩, hp⟩ : ∃ p, mulR (stN o) (iv 10) = p := ⟨_, rfl⟩
      rw [hp] at hstep HM Hmi Hki
      have HA := Lib.hid (fun u : World => raddD_c p1 D u Hki.out Hmi.out hDl)
      have HU := Lib.hid (fun u : World => rsubD_c p1 D u Hki.out Hmi.out hDl)
      obtain ⟨⟨q1, q2⟩, hq⟩ : ∃ q, addR p1 (iv (D : Int)) = q := ⟨_, rfl⟩
      obtain ⟨⟨t1, t2⟩, ht⟩ : ∃ t, subR p1 (iv (D : Int)) = t := ⟨_, rfl⟩
      rw [hq] at hstep HA
      rw [ht] at hstep HU
      have HSt := Lib.hid hstep
      clear hp hq ht hstep hD hdig hxd h45
      obtain ⟨v0, hv0⟩ : ∃ v, stN o = v := ⟨_, rfl⟩
      rw [hv0] at hK HM
      have f0 := hK.out.thaw 0
      have f1 := hK.out.thaw 1
      have f2 := hK.out.thaw 2
      clear hv0
      go_wp2_with (first | rw [Hg.out] | fail)
      refine (HDi.out wr).mono ?_
      rintro e w1 ⟨rfl, hb1⟩
      -- the digit's box
      obtain ⟨X1, hX1⟩ : ∃ X, w1.alloc (.cells #[.int .i64 (iv (D : Int)).k, .int .i64 (iv (D : Int)).n, .string (iv (D : Int)).s] 59) = X := ⟨_, rfl⟩
      have hbx1 : Below wr.heap.size wr X1 := by rw [← hX1]; exact below_al hb1 _
      have HB1 := Lib.hid (hb.out.trans (hbx1.mono hsz))
      have HKv1 := Lib.hid (Bk.after hK.out hbx1 hlw)
      have HKd1 : Hid (BkV X1 w1.heap.size (iv (D : Int))) := Lib.hid (by rw [← hX1]; exact Bk.new w1 _ _)
      have hs1 : wr.heap.size ≤ w1.heap.size := hb1.size
      have HX1 := Lib.hid hX1
      clear hb1 hbx1 hX1 hb hK f0 f1 f2
      have c0 : X1.cell? ⟨w.heap.size, 0, none⟩ = some (.int .i64 v0.k) := HKv1.out.cell 0
      have c1 : X1.cell? ⟨w.heap.size, 1, none⟩ = some (.int .i64 v0.n) := HKv1.out.cell 1
      have c2 : X1.cell? ⟨w.heap.size, 2, none⟩ = some (.string v0.s) := HKv1.out.cell 2
      have hl1 := HKv1.out.lt
      have HSv : Hid (∀ wy, Below X1.heap.size X1 wy → (wy.cell? ⟨w.heap.size, 0, none⟩ = some (.int .i64 v0.k) ∧ wy.cell? ⟨w.heap.size, 1, none⟩ = some (.int .i64 v0.n) ∧ wy.cell? ⟨w.heap.size, 2, none⟩ = some (.string v0.s))) := Lib.hid (fun wy h => ⟨(Bk.after HKv1.out h HKv1.out.lt).cell 0, (Bk.after HKv1.out h HKv1.out.lt).cell 1, (Bk.after HKv1.out h HKv1.out.lt).cell 2⟩)
      have HbA0 : Hid (Below X1.heap.size X1 (X1.alloc (.cells #[.int .i64 0, .int .i64 0, .string ⟨#[]⟩] 59))) := Lib.hid (below_one _ _)
      have HbA1 : Hid (Below X1.heap.size X1 (X1.alloc (.cells #[.int .i64 0, .int .i64 0, .string ⟨#[]⟩] 59)).drew) := Lib.hid (below_one _ _).drew
      have HzA : Hid (BkV (X1.alloc (.cells #[.int .i64 0, .int .i64 0, .string ⟨#[]⟩] 59)).drew X1.heap.size nl) := Lib.hid ((Bk.new X1 _ _).drew)
      go_wp2_with fail
      rw [HX1.out]
      go_region_held3 (fun w' => (w'.cell? ⟨w.heap.size, 0, none⟩ = some (.int .i64 v0.k) ∧ w'.cell? ⟨w.heap.size, 1, none⟩ = some (.int .i64 v0.n) ∧ w'.cell? ⟨w.heap.size, 2, none⟩ = some (.string v0.s)))
       (first
         | exact HSv.out _ HbS.out
         | exact HSv.out _ HbT.out
         | exact HSv.out _ HbA.out
         | exact HSv.out _ HbA0.out
         | exact HSv.out _ HbA1.out
         | go_keep)
       (first
         | (go_at_call 28
            refine (H10.out (X1.alloc (.cells #[.int .i64 0, .int .i64 0, .string ⟨#[]⟩] 59)).drew).mono ?_
            rintro e w2 ⟨rfl, hb2⟩
            have HbS : Hid (Below X1.heap.size X1 w2) := Lib.hid (below_via HbA1.out hb2)
            have Hz : Hid (BkV w2 X1.heap.size nl) := Lib.hid (Bk.after HzA.out hb2 HzA.out.lt)
            clear hb2)
         | (go_at_call 28
            refine (H10.out X1.drew).mono ?_
            rintro e w2 ⟨rfl, hb2⟩
            have HbS : Hid (Below X1.heap.size X1 w2) := Lib.hid (below_via (Below.refl X1.heap.size X1).drew hb2)
            have HbA : Hid (Below X1.heap.size X1 (w2.alloc (.cells #[.int .i64 0, .int .i64 0, .string ⟨#[]⟩] 59))) := Lib.hid (below_al HbS.out _)
            clear hb2)
         | (go_at_call 134
            refine (HM.out (w2.alloc (.cells #[.int .i64 0, .int .i64 0, .string ⟨#[]⟩] 59))).mono ?_
            rintro e w3 ⟨rfl, hb3⟩
            have Hz3 : Hid (BkV w3 w2.heap.size nl) := Lib.hid (Bk.after (Bk.new w2 _ _) hb3 (Bk.new w2 _ _).lt)
            have HbT : Hid (Below X1.heap.size X1 (((w3.setCell ⟨w2.heap.size, 0, none⟩ (.int .i64 p1.k)).setCell ⟨w2.heap.size, 1, none⟩ (.int .i64 p1.n)).setCell ⟨w2.heap.size, 2, none⟩ (.string p1.s))) := Lib.hid (below_put0 (below_via HbA.out hb3) HbS.out.size [.int .i64 p1.k, .int .i64 p1.n, .string p1.s] 0)
            have HkT : Hid (BkV (((w3.setCell ⟨w2.heap.size, 0, none⟩ (.int .i64 p1.k)).setCell ⟨w2.heap.size, 1, none⟩ (.int .i64 p1.n)).setCell ⟨w2.heap.size, 2, none⟩ (.string p1.s)) w2.heap.size p1) := Lib.hid (((Hz3.out.set 0 _).set 1 _).set 2 _)
            have g0 := Hz3.out.thaw 0
            have g1 := Hz3.out.thaw 1
            have g2 := Hz3.out.thaw 2
            have hlg := Hz3.out.lt
            have gc0 : w3.cell? ⟨w2.heap.size, 0, none⟩ = some (.int .i64 0) := Hz3.out.cell 0
            have gc1 : w3.cell? ⟨w2.heap.size, 1, none⟩ = some (.int .i64 0) := Hz3.out.cell 1
            have gc2 : w3.cell? ⟨w2.heap.size, 2, none⟩ = some (.string ⟨#[]⟩) := Hz3.out.cell 2
            have HbS : Hid (Below X1.heap.size X1 w3) := Lib.hid (below_via HbA.out hb3)
            clear hb3)
         | (go_at_call 134
            have Hz2 := Hz
            refine (HM.out w2).mono ?_
            rintro e w3 ⟨rfl, hb3⟩
            have Hz3 : Hid (BkV w3 X1.heap.size nl) := Lib.hid (Bk.after Hz2.out hb3 Hz2.out.lt)
            have HbT : Hid (Below X1.heap.size X1 (((w3.setCell ⟨X1.heap.size, 0, none⟩ (.int .i64 p1.k)).setCell ⟨X1.heap.size, 1, none⟩ (.int .i64 p1.n)).setCell ⟨X1.heap.size, 2, none⟩ (.string p1.s))) := Lib.hid (below_put0 (below_via HbS.out hb3) (Nat.le_refl _) [.int .i64 p1.k, .int .i64 p1.n, .string p1.s] 0)
            have HkT : Hid (BkV (((w3.setCell ⟨X1.heap.size, 0, none⟩ (.int .i64 p1.k)).setCell ⟨X1.heap.size, 1, none⟩ (.int .i64 p1.n)).setCell ⟨X1.heap.size, 2, none⟩ (.string p1.s)) X1.heap.size p1) := Lib.hid (((Hz3.out.set 0 _).set 1 _).set 2 _)
            have g0 := Hz3.out.thaw 0
            have g1 := Hz3.out.thaw 1
            have g2 := Hz3.out.thaw 2
            have hlg := Hz3.out.lt
            have gc0 : w3.cell? ⟨X1.heap.size, 0, none⟩ = some (.int .i64 0) := Hz3.out.cell 0
            have gc1 : w3.cell? ⟨X1.heap.size, 1, none⟩ = some (.int .i64 0) := Hz3.out.cell 1
            have gc2 : w3.cell? ⟨X1.heap.size, 2, none⟩ = some (.string ⟨#[]⟩) := Hz3.out.cell 2
            have HbS : Hid (Below X1.heap.size X1 w3) := Lib.hid (below_via HbS.out hb3)
            clear hb3)
         | (go_at_call 134
            refine (HM.out w2).mono ?_
            rintro e w3 ⟨rfl, hb3⟩
            have HbT : Hid (Below X1.heap.size X1 (w3.alloc (.cells #[.int .i64 p1.k, .int .i64 p1.n, .string p1.s] 59))) := Lib.hid (below_al (below_via HbS.out hb3) _)
            have HkT : Hid (BkV (w3.alloc (.cells #[.int .i64 p1.k, .int .i64 p1.n, .string p1.s] 59)) w3.heap.size p1) := Lib.hid (Bk.new w3 _ _)
            have HbS : Hid (Below X1.heap.size X1 w3) := Lib.hid (below_via HbS.out hb3)
            clear hb3))
      · obtain ⟨X3, hX3⟩ : ∃ X, w3.alloc (.cells #[.int .i64 p1.k, .int .i64 p1.n, .string p1.s] 59) = X := ⟨_, rfl⟩
        rw [hX3] at HbT HkT
        have HB3 := Lib.hid (below_via HB1.out HbT.out)
        have HKv3 := Lib.hid (Bk.after HKv1.out HbT.out HKv1.out.lt)
        have HKd3 := Lib.hid (Bk.after HKd1.out HbT.out HKd1.out.lt)
        have HX3 := Lib.hid hX3
        clear c0 c1 c2 hl1 HSv HbS hX3 HbT HbA0 HbA1 HzA
        have a0 : X3.cell? ⟨w3.heap.size, 0, none⟩ = some (.int .i64 p1.k) := HkT.out.cell 0
        have a1 : X3.cell? ⟨w3.heap.size, 1, none⟩ = some (.int .i64 p1.n) := HkT.out.cell 1
        have a2 : X3.cell? ⟨w3.heap.size, 2, none⟩ = some (.string p1.s) := HkT.out.cell 2
        have al := HkT.out.lt
        have d0 : X3.cell? ⟨w1.heap.size, 0, none⟩ = some (.int .i64 (iv (D : Int)).k) := HKd3.out.cell 0
        have d1 : X3.cell? ⟨w1.heap.size, 1, none⟩ = some (.int .i64 (iv (D : Int)).n) := HKd3.out.cell 1
        have d2 : X3.cell? ⟨w1.heap.size, 2, none⟩ = some (.string (iv (D : Int)).s) := HKd3.out.cell 2
        have dl := HKd3.out.lt
        rw [HX3.out]
        go_wp2_with fail
        refine (HA.out X3).mono ?_
        rintro e w4 ⟨rfl, hb4⟩
        have HB4 := Lib.hid (below_via HB3.out hb4)
        have HKv4 := Lib.hid (Bk.after HKv3.out hb4 HKv3.out.lt)
        have HKd4 := Lib.hid (Bk.after HKd3.out hb4 HKd3.out.lt)
        have HKp4 := Lib.hid (Bk.after HkT.out hb4 HkT.out.lt)
        clear hb4 a0 a1 a2 al d0 d1 d2 dl
        cases m
        · simp only [Bool.false_eq_true, if_false] at HSt
          have HKe : Hid (BkV ((((w4.setCell ⟨w.heap.size, 0, none⟩ (.int .i64 q1.k)).setCell ⟨w.heap.size, 1, none⟩ (.int .i64 q1.n)).setCell ⟨w.heap.size, 2, none⟩ (.string q1.s)).alloc (.cells #[.int .i64 q1.k, .int .i64 q1.n, .string q1.s] 59)) w.heap.size q1) := Lib.hid (bk_al (((HKv4.out.set 0 _).set 1 _).set 2 _) _)
          have HBe : Hid (Below w.heap.size w ((((w4.setCell ⟨w.heap.size, 0, none⟩ (.int .i64 q1.k)).setCell ⟨w.heap.size, 1, none⟩ (.int .i64 q1.n)).setCell ⟨w.heap.size, 2, none⟩ (.string q1.s)).alloc (.cells #[.int .i64 q1.k, .int .i64 q1.n, .string q1.s] 59))) := Lib.hid (below_al (below_put0 HB4.out (Nat.le_refl _) [.int .i64 q1.k, .int .i64 q1.n, .string q1.s] 0) _)
          have HSe := Lib.hid HSt.out
          clear HSt
          obtain ⟨I, hI⟩ : ∃ I, o.isSome = I := ⟨_, rfl⟩
          rw [hI] at HSe ⊢
          clear hI
          have y0 : w4.cell? ⟨w.heap.size, 0, none⟩ = some (.int .i64 v0.k) := HKv4.out.cell 0
          have y1 : w4.cell? ⟨w.heap.size, 1, none⟩ = some (.int .i64 v0.n) := HKv4.out.cell 1
          have y2 : w4.cell? ⟨w.heap.size, 2, none⟩ = some (.string v0.s) := HKv4.out.cell 2
          have yl := HKv4.out.lt
          have yf0 := HKv4.out.thaw 0
          have yf1 := HKv4.out.thaw 1
          have yf2 := HKv4.out.thaw 2
          cases I <;> cases p2 <;> cases q2
          all_goals
           go_wp2
           go_roundw
           case rel => exact ⟨k + 1, by omega, by go_num, by rw [HS.out, ← HSe.out.2]; rfl, by rw [HS.out, ← HSe.out.1]; exact HKe, HBe⟩
           case measure => simp [intOf]; omega
        · simp only [if_true] at HSt
          have a0 : w4.cell? ⟨w3.heap.size, 0, none⟩ = some (.int .i64 p1.k) := HKp4.out.cell 0
          have a1 : w4.cell? ⟨w3.heap.size, 1, none⟩ = some (.int .i64 p1.n) := HKp4.out.cell 1
          have a2 : w4.cell? ⟨w3.heap.size, 2, none⟩ = some (.string p1.s) := HKp4.out.cell 2
          have al := HKp4.out.lt
          have d0 : w4.cell? ⟨w1.heap.size, 0, none⟩ = some (.int .i64 (iv (D : Int)).k) := HKd4.out.cell 0
          have d1 : w4.cell? ⟨w1.heap.size, 1, none⟩ = some (.int .i64 (iv (D : Int)).n) := HKd4.out.cell 1
          have d2 : w4.cell? ⟨w1.heap.size, 2, none⟩ = some (.string (iv (D : Int)).s) := HKd4.out.cell 2
          have dl := HKd4.out.lt
          have HKq4 : Hid (BkV (w4.alloc (.cells #[.int .i64 q1.k, .int .i64 q1.n, .string q1.s] 59)) w4.heap.size q1) := Lib.hid (Bk.new w4 _ _)
          have HB4a := Lib.hid (below_al HB4.out (.cells #[.int .i64 q1.k, .int .i64 q1.n, .string q1.s] 59))
          have HKv4a := Lib.hid (bk_al HKv4.out (.cells #[.int .i64 q1.k, .int .i64 q1.n, .string q1.s] 59))
          have hne : w4.heap.size ≠ w.heap.size := by have := HKv4.out.lt; omega
          obtain ⟨X4, hX4⟩ : ∃ X, w4.alloc (.cells #[.int .i64 q1.k, .int .i64 q1.n, .string q1.s] 59) = X := ⟨_, rfl⟩
          rw [hX4] at HKq4 HB4a HKv4a
          have HX4 := Lib.hid hX4
          clear hX4
          go_wp2_with fail
          rw [HX4.out]
          refine (HU.out X4).mono ?_
          rintro e w5 ⟨rfl, hb5⟩
          have HKq5 := Lib.hid (Bk.after HKq4.out hb5 HKq4.out.lt)
          have HKv5 := Lib.hid (Bk.after HKv4a.out hb5 HKv4a.out.lt)
          have HB5 := Lib.hid (below_via HB4a.out hb5)
          clear hb5 a0 a1 a2 al d0 d1 d2 dl
          have x0 : w5.cell? ⟨w4.heap.size, 0, none⟩ = some (.int .i64 q1.k) := HKq5.out.cell 0
          have x1 : w5.cell? ⟨w4.heap.size, 1, none⟩ = some (.int .i64 q1.n) := HKq5.out.cell 1
          have x2 : w5.cell? ⟨w4.heap.size, 2, none⟩ = some (.string q1.s) := HKq5.out.cell 2
          have xl := HKq5.out.lt
          have xf0 := HKq5.out.thaw 0
          have xf1 := HKq5.out.thaw 1
          have xf2 := HKq5.out.thaw 2
          have HK5a : Hid (BkV (((w5.setCell ⟨w4.heap.size, 0, none⟩ (.int .i64 t1.k)).setCell ⟨w4.heap.size, 1, none⟩ (.int .i64 t1.n)).setCell ⟨w4.heap.size, 2, none⟩ (.string t1.s)) w.heap.size v0) := Lib.hid (show _ = _ by
           have h := putL_heap [.int .i64 t1.k, .int .i64 t1.n, .string t1.s] w5 w4.heap.size 0 w.heap.size (Ne.symm hne)
           exact h.trans HKv5.out)
          have HKe : Hid (BkV ((((((w5.setCell ⟨w4.heap.size, 0, none⟩ (.int .i64 t1.k)).setCell ⟨w4.heap.size, 1, none⟩ (.int .i64 t1.n)).setCell ⟨w4.heap.size, 2, none⟩ (.string t1.s)).setCell ⟨w.heap.size, 0, none⟩ (.int .i64 t1.k)).setCell ⟨w.heap.size, 1, none⟩ (.int .i64 t1.n)).setCell ⟨w.heap.size, 2, none⟩ (.string t1.s)) w.heap.size t1) := Lib.hid (((HK5a.out.set 0 _).set 1 _).set 2 _)
          have HBe : Hid (Below w.heap.size w ((((((w5.setCell ⟨w4.heap.size, 0, none⟩ (.int .i64 t1.k)).setCell ⟨w4.heap.size, 1, none⟩ (.int .i64 t1.n)).setCell ⟨w4.heap.size, 2, none⟩ (.string t1.s)).setCell ⟨w.heap.size, 0, none⟩ (.int .i64 t1.k)).setCell ⟨w.heap.size, 1, none⟩ (.int .i64 t1.n)).setCell ⟨w.heap.size, 2, none⟩ (.string t1.s))) := Lib.hid (below_put0 (below_put0 HB5.out (Nat.le_of_lt (by have := HKv4.out.lt; omega)) [.int .i64 t1.k, .int .i64 t1.n, .string t1.s] 0) (Nat.le_refl _) [.int .i64 t1.k, .int .i64 t1.n, .string t1.s] 0)
          have HSe := Lib.hid HSt.out
          clear HSt
          obtain ⟨I, hI⟩ : ∃ I, o.isSome = I := ⟨_, rfl⟩
          rw [hI] at HSe ⊢
          clear hI
          have y0 : w5.cell? ⟨w.heap.size, 0, none⟩ = some (.int .i64 v0.k) := HKv5.out.cell 0
          have y1 : w5.cell? ⟨w.heap.size, 1, none⟩ = some (.int .i64 v0.n) := HKv5.out.cell 1
          have y2 : w5.cell? ⟨w.heap.size, 2, none⟩ = some (.string v0.s) := HKv5.out.cell 2
          have yl := HKv5.out.lt
          have yf0 := HKv5.out.thaw 0
          have yf1 := HKv5.out.thaw 1
          have yf2 := HKv5.out.thaw 2
          cases I <;> cases p2 <;> cases t2
          all_goals
           go_wp2
           go_roundw
           case rel => exact ⟨k + 1, by omega, by go_num, by rw [HS.out, ← HSe.out.2]; rfl, by rw [HS.out, ← HSe.out.1]; exact HKe, HBe⟩
           case measure => simp [intOf]; omega
      · obtain ⟨X3, hX3⟩ : ∃ X, (((w3.setCell ⟨w2.heap.size, 0, none⟩ (.int .i64 p1.k)).setCell ⟨w2.heap.size, 1, none⟩ (.int .i64 p1.n)).setCell ⟨w2.heap.size, 2, none⟩ (.string p1.s)) = X := ⟨_, rfl⟩
        rw [hX3] at HbT HkT
        have HB3 := Lib.hid (below_via HB1.out HbT.out)
        have HKv3 := Lib.hid (Bk.after HKv1.out HbT.out HKv1.out.lt)
        have HKd3 := Lib.hid (Bk.after HKd1.out HbT.out HKd1.out.lt)
        have HX3 := Lib.hid hX3
        clear c0 c1 c2 hl1 HSv HbS hX3 HbT HbA0 HbA1 HzA
        have a0 : X3.cell? ⟨w2.heap.size, 0, none⟩ = some (.int .i64 p1.k) := HkT.out.cell 0
        have a1 : X3.cell? ⟨w2.heap.size, 1, none⟩ = some (.int .i64 p1.n) := HkT.out.cell 1
        have a2 : X3.cell? ⟨w2.heap.size, 2, none⟩ = some (.string p1.s) := HkT.out.cell 2
        have al := HkT.out.lt
        have d0 : X3.cell? ⟨w1.heap.size, 0, none⟩ = some (.int .i64 (iv (D : Int)).k) := HKd3.out.cell 0
        have d1 : X3.cell? ⟨w1.heap.size, 1, none⟩ = some (.int .i64 (iv (D : Int)).n) := HKd3.out.cell 1
        have d2 : X3.cell? ⟨w1.heap.size, 2, none⟩ = some (.string (iv (D : Int)).s) := HKd3.out.cell 2
        have dl := HKd3.out.lt
        rw [HX3.out]
        go_wp2_with fail
        refine (HA.out X3).mono ?_
        rintro e w4 ⟨rfl, hb4⟩
        have HB4 := Lib.hid (below_via HB3.out hb4)
        have HKv4 := Lib.hid (Bk.after HKv3.out hb4 HKv3.out.lt)
        have HKd4 := Lib.hid (Bk.after HKd3.out hb4 HKd3.out.lt)
        have HKp4 := Lib.hid (Bk.after HkT.out hb4 HkT.out.lt)
        clear hb4 a0 a1 a2 al d0 d1 d2 dl
        cases m
        · simp only [Bool.false_eq_true, if_false] at HSt
          have HKe : Hid (BkV ((((w4.setCell ⟨w.heap.size, 0, none⟩ (.int .i64 q1.k)).setCell ⟨w.heap.size, 1, none⟩ (.int .i64 q1.n)).setCell ⟨w.heap.size, 2, none⟩ (.string q1.s)).alloc (.cells #[.int .i64 q1.k, .int .i64 q1.n, .string q1.s] 59)) w.heap.size q1) := Lib.hid (bk_al (((HKv4.out.set 0 _).set 1 _).set 2 _) _)
          have HBe : Hid (Below w.heap.size w ((((w4.setCell ⟨w.heap.size, 0, none⟩ (.int .i64 q1.k)).setCell ⟨w.heap.size, 1, none⟩ (.int .i64 q1.n)).setCell ⟨w.heap.size, 2, none⟩ (.string q1.s)).alloc (.cells #[.int .i64 q1.k, .int .i64 q1.n, .string q1.s] 59))) := Lib.hid (below_al (below_put0 HB4.out (Nat.le_refl _) [.int .i64 q1.k, .int .i64 q1.n, .string q1.s] 0) _)
          have HSe := Lib.hid HSt.out
          clear HSt
          obtain ⟨I, hI⟩ : ∃ I, o.isSome = I := ⟨_, rfl⟩
          rw [hI] at HSe ⊢
          clear hI
          have y0 : w4.cell? ⟨w.heap.size, 0, none⟩ = some (.int .i64 v0.k) := HKv4.out.cell 0
          have y1 : w4.cell? ⟨w.heap.size, 1, none⟩ = some (.int .i64 v0.n) := HKv4.out.cell 1
          have y2 : w4.cell? ⟨w.heap.size, 2, none⟩ = some (.string v0.s) := HKv4.out.cell 2
          have yl := HKv4.out.lt
          have yf0 := HKv4.out.thaw 0
          have yf1 := HKv4.out.thaw 1
          have yf2 := HKv4.out.thaw 2
          cases I <;> cases p2 <;> cases q2
          all_goals
           go_wp2
           go_roundw
           case rel => exact ⟨k + 1, by omega, by go_num, by rw [HS.out, ← HSe.out.2]; rfl, by rw [HS.out, ← HSe.out.1]; exact HKe, HBe⟩
           case measure => simp [intOf]; omega
        · simp only [if_true] at HSt
          have a0 : w4.cell? ⟨w2.heap.size, 0, none⟩ = some (.int .i64 p1.k) := HKp4.out.cell 0
          have a1 : w4.cell? ⟨w2.heap.size, 1, none⟩ = some (.int .i64 p1.n) := HKp4.out.cell 1
          have a2 : w4.cell? ⟨w2.heap.size, 2, none⟩ = some (.string p1.s) := HKp4.out.cell 2
          have al := HKp4.out.lt
          have d0 : w4.cell? ⟨w1.heap.size, 0, none⟩ = some (.int .i64 (iv (D : Int)).k) := HKd4.out.cell 0
          have d1 : w4.cell? ⟨w1.heap.size, 1, none⟩ = some (.int .i64 (iv (D : Int)).n) := HKd4.out.cell 1
          have d2 : w4.cell? ⟨w1.heap.size, 2, none⟩ = some (.string (iv (D : Int)).s) := HKd4.out.cell 2
          have dl := HKd4.out.lt
          have HKq4 : Hid (BkV (w4.alloc (.cells #[.int .i64 q1.k, .int .i64 q1.n, .string q1.s] 59)) w4.heap.size q1) := Lib.hid (Bk.new w4 _ _)
          have HB4a := Lib.hid (below_al HB4.out (.cells #[.int .i64 q1.k, .int .i64 q1.n, .string q1.s] 59))
          have HKv4a := Lib.hid (bk_al HKv4.out (.cells #[.int .i64 q1.k, .int .i64 q1.n, .string q1.s] 59))
          have hne : w4.heap.size ≠ w.heap.size := by have := HKv4.out.lt; omega
          obtain ⟨X4, hX4⟩ : ∃ X, w4.alloc (.cells #[.int .i64 q1.k, .int .i64 q1.n, .string q1.s] 59) = X := ⟨_, rfl⟩
          rw [hX4] at HKq4 HB4a HKv4a
          have HX4 := Lib.hid hX4
          clear hX4
          go_wp2_with fail
          rw [HX4.out]
          refine (HU.out X4).mono ?_
          rintro e w5 ⟨rfl, hb5⟩
          have HKq5 := Lib.hid (Bk.after HKq4.out hb5 HKq4.out.lt)
          have HKv5 := Lib.hid (Bk.after HKv4a.out hb5 HKv4a.out.lt)
          have HB5 := Lib.hid (below_via HB4a.out hb5)
          clear hb5 a0 a1 a2 al d0 d1 d2 dl
          have x0 : w5.cell? ⟨w4.heap.size, 0, none⟩ = some (.int .i64 q1.k) := HKq5.out.cell 0
          have x1 : w5.cell? ⟨w4.heap.size, 1, none⟩ = some (.int .i64 q1.n) := HKq5.out.cell 1
          have x2 : w5.cell? ⟨w4.heap.size, 2, none⟩ = some (.string q1.s) := HKq5.out.cell 2
          have xl := HKq5.out.lt
          have xf0 := HKq5.out.thaw 0
          have xf1 := HKq5.out.thaw 1
          have xf2 := HKq5.out.thaw 2
          have HK5a : Hid (BkV (((w5.setCell ⟨w4.heap.size, 0, none⟩ (.int .i64 t1.k)).setCell ⟨w4.heap.size, 1, none⟩ (.int .i64 t1.n)).setCell ⟨w4.heap.size, 2, none⟩ (.string t1.s)) w.heap.size v0) := Lib.hid (show _ = _ by
           have h := putL_heap [.int .i64 t1.k, .int .i64 t1.n, .string t1.s] w5 w4.heap.size 0 w.heap.size (Ne.symm hne)
           exact h.trans HKv5.out)
          have HKe : Hid (BkV ((((((w5.setCell ⟨w4.heap.size, 0, none⟩ (.int .i64 t1.k)).setCell ⟨w4.heap.size, 1, none⟩ (.int .i64 t1.n)).setCell ⟨w4.heap.size, 2, none⟩ (.string t1.s)).setCell ⟨w.heap.size, 0, none⟩ (.int .i64 t1.k)).setCell ⟨w.heap.size, 1, none⟩ (.int .i64 t1.n)).setCell ⟨w.heap.size, 2, none⟩ (.string t1.s)) w.heap.size t1) := Lib.hid (((HK5a.out.set 0 _).set 1 _).set 2 _)
          have HBe : Hid (Below w.heap.size w ((((((w5.setCell ⟨w4.heap.size, 0, none⟩ (.int .i64 t1.k)).setCell ⟨w4.heap.size, 1, none⟩ (.int .i64 t1.n)).setCell ⟨w4.heap.size, 2, none⟩ (.string t1.s)).setCell ⟨w.heap.size, 0, none⟩ (.int .i64 t1.k)).setCell ⟨w.heap.size, 1, none⟩ (.int .i64 t1.n)).setCell ⟨w.heap.size, 2, none⟩ (.string t1.s))) := Lib.hid (below_put0 (below_put0 HB5.out (Nat.le_of_lt (by have := HKv4.out.lt; omega)) [.int .i64 t1.k, .int .i64 t1.n, .string t1.s] 0) (Nat.le_refl _) [.int .i64 t1.k, .int .i64 t1.n, .string t1.s] 0)
          have HSe := Lib.hid HSt.out
          clear HSt
          obtain ⟨I, hI⟩ : ∃ I, o.isSome = I := ⟨_, rfl⟩
          rw [hI] at HSe ⊢
          clear hI
          have y0 : w5.cell? ⟨w.heap.size, 0, none⟩ = some (.int .i64 v0.k) := HKv5.out.cell 0
          have y1 : w5.cell? ⟨w.heap.size, 1, none⟩ = some (.int .i64 v0.n) := HKv5.out.cell 1
          have y2 : w5.cell? ⟨w.heap.size, 2, none⟩ = some (.string v0.s) := HKv5.out.cell 2
          have yl := HKv5.out.lt
          have yf0 := HKv5.out.thaw 0
          have yf1 := HKv5.out.thaw 1
          have yf2 := HKv5.out.thaw 2
          cases I <;> cases p2 <;> cases t2
          all_goals
           go_wp2
           go_roundw
           case rel => exact ⟨k + 1, by omega, by go_num, by rw [HS.out, ← HSe.out.2]; rfl, by rw [HS.out, ← HSe.out.1]; exact HKe, HBe⟩
           case measure => simp [intOf]; omega
      · obtain ⟨X3, hX3⟩ : ∃ X, (((w3.setCell ⟨X1.heap.size, 0, none⟩ (.int .i64 p1.k)).setCell ⟨X1.heap.size, 1, none⟩ (.int .i64 p1.n)).setCell ⟨X1.heap.size, 2, none⟩ (.string p1.s)) = X := ⟨_, rfl⟩
        rw [hX3] at HbT HkT
        have HB3 := Lib.hid (below_via HB1.out HbT.out)
        have HKv3 := Lib.hid (Bk.after HKv1.out HbT.out HKv1.out.lt)
        have HKd3 := Lib.hid (Bk.after HKd1.out HbT.out HKd1.out.lt)
        have HX3 := Lib.hid hX3
        clear c0 c1 c2 hl1 HSv HbS hX3 HbT HbA0 HbA1 HzA
        have a0 : X3.cell? ⟨X1.heap.size, 0, none⟩ = some (.int .i64 p1.k) := HkT.out.cell 0
        have a1 : X3.cell? ⟨X1.heap.size, 1, none⟩ = some (.int .i64 p1.n) := HkT.out.cell 1
        have a2 : X3.cell? ⟨X1.heap.size, 2, none⟩ = some (.string p1.s) := HkT.out.cell 2
        have al := HkT.out.lt
        have d0 : X3.cell? ⟨w1.heap.size, 0, none⟩ = some (.int .i64 (iv (D : Int)).k) := HKd3.out.cell 0
        have d1 : X3.cell? ⟨w1.heap.size, 1, none⟩ = some (.int .i64 (iv (D : Int)).n) := HKd3.out.cell 1
        have d2 : X3.cell? ⟨w1.heap.size, 2, none⟩ = some (.string (iv (D : Int)).s) := HKd3.out.cell 2
        have dl := HKd3.out.lt
        rw [HX3.out]
        go_wp2_with fail
        refine (HA.out X3).mono ?_
        rintro e w4 ⟨rfl, hb4⟩
        have HB4 := Lib.hid (below_via HB3.out hb4)
        have HKv4 := Lib.hid (Bk.after HKv3.out hb4 HKv3.out.lt)
        have HKd4 := Lib.hid (Bk.after HKd3.out hb4 HKd3.out.lt)
        have HKp4 := Lib.hid (Bk.after HkT.out hb4 HkT.out.lt)
        clear hb4 a0 a1 a2 al d0 d1 d2 dl
        cases m
        · simp only [Bool.false_eq_true, if_false] at HSt
          have HKe : Hid (BkV ((((w4.setCell ⟨w.heap.size, 0, none⟩ (.int .i64 q1.k)).setCell ⟨w.heap.size, 1, none⟩ (.int .i64 q1.n)).setCell ⟨w.heap.size, 2, none⟩ (.string q1.s)).alloc (.cells #[.int .i64 q1.k, .int .i64 q1.n, .string q1.s] 59)) w.heap.size q1) := Lib.hid (bk_al (((HKv4.out.set 0 _).set 1 _).set 2 _) _)
          have HBe : Hid (Below w.heap.size w ((((w4.setCell ⟨w.heap.size, 0, none⟩ (.int .i64 q1.k)).setCell ⟨w.heap.size, 1, none⟩ (.int .i64 q1.n)).setCell ⟨w.heap.size, 2, none⟩ (.string q1.s)).alloc (.cells #[.int .i64 q1.k, .int .i64 q1.n, .string q1.s] 59))) := Lib.hid (below_al (below_put0 HB4.out (Nat.le_refl _) [.int .i64 q1.k, .int .i64 q1.n, .string q1.s] 0) _)
          have HSe := Lib.hid HSt.out
          clear HSt
          obtain ⟨I, hI⟩ : ∃ I, o.isSome = I := ⟨_, rfl⟩
          rw [hI] at HSe ⊢
          clear hI
          have y0 : w4.cell? ⟨w.heap.size, 0, none⟩ = some (.int .i64 v0.k) := HKv4.out.cell 0
          have y1 : w4.cell? ⟨w.heap.size, 1, none⟩ = some (.int .i64 v0.n) := HKv4.out.cell 1
          have y2 : w4.cell? ⟨w.heap.size, 2, none⟩ = some (.string v0.s) := HKv4.out.cell 2
          have yl := HKv4.out.lt
          have yf0 := HKv4.out.thaw 0
          have yf1 := HKv4.out.thaw 1
          have yf2 := HKv4.out.thaw 2
          cases I <;> cases p2 <;> cases q2
          all_goals
           go_wp2
           go_roundw
           case rel => exact ⟨k + 1, by omega, by go_num, by rw [HS.out, ← HSe.out.2]; rfl, by rw [HS.out, ← HSe.out.1]; exact HKe, HBe⟩
           case measure => simp [intOf]; omega
        · simp only [if_true] at HSt
          have a0 : w4.cell? ⟨X1.heap.size, 0, none⟩ = some (.int .i64 p1.k) := HKp4.out.cell 0
          have a1 : w4.cell? ⟨X1.heap.size, 1, none⟩ = some (.int .i64 p1.n) := HKp4.out.cell 1
          have a2 : w4.cell? ⟨X1.heap.size, 2, none⟩ = some (.string p1.s) := HKp4.out.cell 2
          have al := HKp4.out.lt
          have d0 : w4.cell? ⟨w1.heap.size, 0, none⟩ = some (.int .i64 (iv (D : Int)).k) := HKd4.out.cell 0
          have d1 : w4.cell? ⟨w1.heap.size, 1, none⟩ = some (.int .i64 (iv (D : Int)).n) := HKd4.out.cell 1
          have d2 : w4.cell? ⟨w1.heap.size, 2, none⟩ = some (.string (iv (D : Int)).s) := HKd4.out.cell 2
          have dl := HKd4.out.lt
          have HKq4 : Hid (BkV (w4.alloc (.cells #[.int .i64 q1.k, .int .i64 q1.n, .string q1.s] 59)) w4.heap.size q1) := Lib.hid (Bk.new w4 _ _)
          have HB4a := Lib.hid (below_al HB4.out (.cells #[.int .i64 q1.k, .int .i64 q1.n, .string q1.s] 59))
          have HKv4a := Lib.hid (bk_al HKv4.out (.cells #[.int .i64 q1.k, .int .i64 q1.n, .string q1.s] 59))
          have hne : w4.heap.size ≠ w.heap.size := by have := HKv4.out.lt; omega
          obtain ⟨X4, hX4⟩ : ∃ X, w4.alloc (.cells #[.int .i64 q1.k, .int .i64 q1.n, .string q1.s] 59) = X := ⟨_, rfl⟩
          rw [hX4] at HKq4 HB4a HKv4a
          have HX4 := Lib.hid hX4
          clear hX4
          go_wp2_with fail
          rw [HX4.out]
          refine (HU.out X4).mono ?_
          rintro e w5 ⟨rfl, hb5⟩
          have HKq5 := Lib.hid (Bk.after HKq4.out hb5 HKq4.out.lt)
          have HKv5 := Lib.hid (Bk.after HKv4a.out hb5 HKv4a.out.lt)
          have HB5 := Lib.hid (below_via HB4a.out hb5)
          clear hb5 a0 a1 a2 al d0 d1 d2 dl
          have x0 : w5.cell? ⟨w4.heap.size, 0, none⟩ = some (.int .i64 q1.k) := HKq5.out.cell 0
          have x1 : w5.cell? ⟨w4.heap.size, 1, none⟩ = some (.int .i64 q1.n) := HKq5.out.cell 1
          have x2 : w5.cell? ⟨w4.heap.size, 2, none⟩ = some (.string q1.s) := HKq5.out.cell 2
          have xl := HKq5.out.lt
          have xf0 := HKq5.out.thaw 0
          have xf1 := HKq5.out.thaw 1
          have xf2 := HKq5.out.thaw 2
          have HK5a : Hid (BkV (((w5.setCell ⟨w4.heap.size, 0, none⟩ (.int .i64 t1.k)).setCell ⟨w4.heap.size, 1, none⟩ (.int .i64 t1.n)).setCell ⟨w4.heap.size, 2, none⟩ (.string t1.s)) w.heap.size v0) := Lib.hid (show _ = _ by
           have h := putL_heap [.int .i64 t1.k, .int .i64 t1.n, .string t1.s] w5 w4.heap.size 0 w.heap.size (Ne.symm hne)
           exact h.trans HKv5.out)
          have HKe : Hid (BkV ((((((w5.setCell ⟨w4.heap.size, 0, none⟩ (.int .i64 t1.k)).setCell ⟨w4.heap.size, 1, none⟩ (.int .i64 t1.n)).setCell ⟨w4.heap.size, 2, none⟩ (.string t1.s)).setCell ⟨w.heap.size, 0, none⟩ (.int .i64 t1.k)).setCell ⟨w.heap.size, 1, none⟩ (.int .i64 t1.n)).setCell ⟨w.heap.size, 2, none⟩ (.string t1.s)) w.heap.size t1) := Lib.hid (((HK5a.out.set 0 _).set 1 _).set 2 _)
          have HBe : Hid (Below w.heap.size w ((((((w5.setCell ⟨w4.heap.size, 0, none⟩ (.int .i64 t1.k)).setCell ⟨w4.heap.size, 1, none⟩ (.int .i64 t1.n)).setCell ⟨w4.heap.size, 2, none⟩ (.string t1.s)).setCell ⟨w.heap.size, 0, none⟩ (.int .i64 t1.k)).setCell ⟨w.heap.size, 1, none⟩ (.int .i64 t1.n)).setCell ⟨w.heap.size, 2, none⟩ (.string t1.s))) := Lib.hid (below_put0 (below_put0 HB5.out (Nat.le_of_lt (by have := HKv4.out.lt; omega)) [.int .i64 t1.k, .int .i64 t1.n, .string t1.s] 0) (Nat.le_refl _) [.int .i64 t1.k, .int .i64 t1.n, .string t1.s] 0)
          have HSe := Lib.hid HSt.out
          clear HSt
          obtain ⟨I, hI⟩ : ∃ I, o.isSome = I := ⟨_, rfl⟩
          rw [hI] at HSe ⊢
          clear hI
          have y0 : w5.cell? ⟨w.heap.size, 0, none⟩ = some (.int .i64 v0.k) := HKv5.out.cell 0
          have y1 : w5.cell? ⟨w.heap.size, 1, none⟩ = some (.int .i64 v0.n) := HKv5.out.cell 1
          have y2 : w5.cell? ⟨w.heap.size, 2, none⟩ = some (.string v0.s) := HKv5.out.cell 2
          have yl := HKv5.out.lt
          have yf0 := HKv5.out.thaw 0
          have yf1 := HKv5.out.thaw 1
          have yf2 := HKv5.out.thaw 2
          cases I <;> cases p2 <;> cases t2
          all_goals
           go_wp2
           go_roundw
           case rel => exact ⟨k + 1, by omega, by go_num, by rw [HS.out, ← HSe.out.2]; rfl, by rw [HS.out, ← HSe.out.1]; exact HKe, HBe⟩
           case measure => simp [intOf]; omega
  · obtain rfl : k = L.length := by omega
    rw [show L.take L.length = L from List.take_length] at hK ⊢
    obtain ⟨o, ho⟩ : ∃ o, runN m L = o := ⟨_, rfl⟩
    have hR := HR.out
    unfold numO at hR
    rw [ho] at hK hR ⊢
    have hrng : ∀ a, o = some a → in64 a := fun a h => runN_in m L a (ho.trans h)
    cases o with
    | none =>
      subst hR
      have c1 : wr.cell? ⟨w.heap.size, 1, none⟩ = some (.int .i64 0) := hK.out.cell 1
      clear hrng ho HR
      simp only [Option.isSome_none]
      go_wp2_with fail
      go_region
      go_wp2
      go_ret2
      exact ⟨rfl, hb.out.drew⟩
    | some a =>
      subst hR
      have ha := hrng a rfl
      have c1 : wr.cell? ⟨w.heap.size, 1, none⟩ = some (.int .i64 a) := hK.out.cell 1
      have HSg := Lib.hid (fun u : World => rsigned_c a u ha)
      have hbe : ((⟨(Lib.itoa a).toArray⟩ : ByteArray).toList == (ba L).toList) = decide (Lib.itoa a = L) := by
       rw [Bool.eq_iff_iff]
       simp only [beq_iff_eq, decide_eq_true_eq]
       constructor
       · intro h; exact ba_inj (toList_inj h)
       · intro h; rw [h]
      obtain ⟨I, hI⟩ : ∃ I : ByteArray, (⟨(Lib.itoa a).toArray⟩ : ByteArray) = I := ⟨_, rfl⟩
      obtain ⟨BL, hBL⟩ : ∃ B : ByteArray, ba L = B := ⟨_, rfl⟩
      obtain ⟨Q, hQ⟩ : ∃ Q, decide (Lib.itoa a = L) = Q := ⟨_, rfl⟩
      simp only [Option.isSome_some]
      rw [hI] at HSg hbe
      have hbs : BL.size = L.length := by rw [← hBL]; rfl
      rw [hBL] at hbe ⊢
      rw [hQ] at hbe
      have HQ := Lib.hid hQ
      have HSv : Hid (∀ wy, Below wr.heap.size wr wy → (wy.cell? ⟨w.heap.size, 1, none⟩ = some (.int .i64 a))) := Lib.hid (fun wy h => (h.cell (p := ⟨w.heap.size, 1, none⟩) hlw).trans c1)
      clear hrng ho HR ha hI hBL hQ hK
      go_wp2_with fail
      go_region_held3 (fun w' => w'.cell? ⟨w.heap.size, 1, none⟩ = some (.int .i64 a))
       (first
         | exact HSv.out _ HbS.out
         | go_keep)
       (first
         | (go_at_call 27
            refine (HSg.out wr.drew).mono ?_
            rintro e w2 ⟨rfl, hb2⟩
            have HbS : Hid (Below wr.heap.size wr w2) := Lib.hid (below_via (Below.refl wr.heap.size wr).drew hb2)
            clear hb2))
      all_goals
       have HBz := Lib.hid (hb.out.trans (HbS.out.mono hsz))
       clear HSv HbS c1
       go_wp2
       go_ret2
       exact ⟨by rw [← HQ.out]; rfl, HBz.out⟩
theorem tw_at (p : UInt8 → Bool) (l : List UInt8) (a k : Nat) (h1 : a ≤ k) (h2 : k ≤ l.length) (hall : ∀ x ∈ (l.drop a).take (k - a), p x = true) (hend : ∀ x, l[k]? = some x → p x = false) :
 (l.drop a).takeWhile p = (l.drop a).take (k - a) ∧ (l.drop a).dropWhile p = l.drop k := by
 have e : l.drop a = (l.drop a).take (k - a) ++ l.drop k := by
  have := (List.take_append_drop (k - a) (l.drop a)).symm
  rw [List.drop_drop, show a + (k - a) = k by omega] at this
  exact this
 have hd : (l.drop k).takeWhile p = [] ∧ (l.drop k).dropWhile p = l.drop k := by
  cases hq : l.drop k with
  | nil => exact ⟨rfl, rfl⟩
  | cons x r =>
    have hx : l[k]? = some x := by
     have := List.getElem?_drop (xs := l) (i := k) (j := 0)
     rw [hq] at this
     simpa using this.symm
    have := hend x hx
    simp [List.takeWhile_cons, List.dropWhile_cons, this]
 generalize (l.drop a).take (k - a) = A at hall e ⊢
 rw [e, List.takeWhile_append_of_pos hall, List.dropWhile_append_of_pos hall, hd.1, hd.2]
 simp
theorem mayT_int (n : Int) : mayT (intT n) = true := by kernel_rfl
theorem mayT_wrd (l : List UInt8) : mayT (wrdT l) = wordB l := by
 unfold mayT wrdT
 simp [Val.eq_iff]
theorem mayT_str (l : List UInt8) : mayT (strT l) = decide (l.length ≤ 1000) := by
 have hb : (⟨l.toArray⟩ : ByteArray).size = l.length := by show l.toArray.size = _; simp
 unfold mayT strT
 simp [mayB, hb]
theorem mayT_sgn (c : UInt8) : mayT (sgnT [c]) = decide (c ∈ sgns) := by
 unfold mayT sgnT signB
 simp [Val.eq_iff]
theorem numT_O {l : List UInt8} {c : UInt8} {r : List UInt8} (hl : l = c :: r) : numT l = if (numO (decide (c = 45)) l).2 then some (intT (numO (decide (c = 45)) l).1) else none := by
 rw [num_run hl _ rfl]
 unfold numO
 split
 · rename_i v _ ho _
   rw [ho]
   simp only
   by_cases h : Lib.itoa v = l
   · rw [if_pos h, decide_eq_true h]; rfl
   · rw [if_neg h, decide_eq_false h]; rfl
 · rename_i ho _
   rw [ho]; rfl
theorem lex_one {c : UInt8} {r q : List UInt8} {t : Tk} (hc : cls c ≠ 1) (ht : tokL (c :: r) = some (t, q)) (hm : mayT t = true) : lexL (c :: r) = (lexL q).map (t :: ·) := by
 rw [lex_tok hc, ht]
 simp only [hm, if_true]
theorem lex_bad {c : UInt8} {r : List UInt8} (hc : cls c ≠ 1) (ht : ∀ t q, tokL (c :: r) = some (t, q) → mayT t = false) : lexL (c :: r) = none := by
 rw [lex_tok hc]
 cases h : tokL (c :: r) with
 | none => rfl
 | some p =>
   simp only [ht p.1 p.2 h]
   rfl
def QuoS (n : Nat) (o : Option (List UInt8 × List UInt8)) (e : Ending) : Prop := match o with
 | none => e = .returned (.tuple #[.string emp, .int .i64 0, .bool false])
 | some p => e = .returned (.tuple #[.string (ba p.1), .int .i64 ((n - p.2.length : Nat) : Int), .bool (decide (p.1.length ≤ 1000))])
theorem quoF_nil : quoF false [] = none := rfl
theorem quoF_other {c : UInt8} {r : List UInt8} (h : c ≠ 39) : quoF false (c :: r) = (quoF false r).map fun p => (c :: p.1, p.2) := by rw [quoF, if_neg h]
theorem quoF_two {r : List UInt8} : quoF false (39 :: 39 :: r) = (quoF false r).map fun p => (39 :: p.1, p.2) := by rw [quoF, if_pos rfl, quoF, if_pos rfl]
theorem quoF_end1 : quoF false [39] = some ([], []) := rfl
theorem quoF_end2 {c : UInt8} {r : List UInt8} (h : c ≠ 39) : quoF false (39 :: c :: r) = some ([], c :: r) := by rw [quoF, if_pos rfl, quoF, if_neg h]
theorem map_acc {o : Option (List UInt8 × List UInt8)} {acc : List UInt8} {c : UInt8} : ((o.map fun p => (c :: p.1, p.2)).map fun p => (acc ++ p.1, p.2)) = o.map fun p => (acc ++ [c] ++ p.1, p.2) := by
 cases o with
 | none => rfl
 | some p => simp
theorem quo_says {n k : Nat} (acc r : List UInt8) (h : n - r.length = k + 1) : QuoS n (some (acc, r)) (.returned (.tuple #[.string (ba acc), .int .i64 ((k : Int) + 1), .bool (decide ((acc.length : Int) ≤ 1000))])) := by
 have e : decide (acc.length ≤ 1000) = decide ((acc.length : Int) ≤ 1000) := by
  rw [Bool.eq_iff_iff, decide_eq_true_eq, decide_eq_true_eq]; omega
 unfold QuoS
 simp only [h, e]
 rfl
set_option maxHeartbeats 4000000 in
theorem rquo_c (s : ByteArray) (at0 : Nat) (hat : at0 < s.size) (hl : s.size ≤ 20000) (w : World) :
 Calls Tryz.prog 91 #[.string s, .int .i64 (at0 : Int)] w fun e w' => QuoS s.size (quoF false (s.data.toList.drop (at0 + 1))) e ∧ w' = w := by
 obtain ⟨S, hS⟩ : ∃ S, QuoS s.size (quoF false (s.data.toList.drop (at0 + 1))) = S := ⟨_, rfl⟩
 rw [hS]
 have HS := Lib.hid hS
 have hls : s.data.toList.length = s.size := Array.length_toList
 have Hls := Lib.hid hls
 clear hS hls
 go_enter Tryz.func91, Tryz.ntmps91
 go_wp2_with fail
 go_loopw [7, 8] (fun o i wr => ∃ (acc : List UInt8) (k : Nat), k ≤ s.size ∧ i = .int .i64 (k : Int) ∧ o = .string (ba acc) ∧ w = wr ∧ acc.length ≤ k ∧ Hid (quoF false (s.data.toList.drop (at0 + 1)) = (quoF false (s.data.toList.drop k)).map fun p => (acc ++ p.1, p.2))) (fun _ i _ => s.size - (intOf i).toNat)
 case atStart =>
  refine ⟨[], at0 + 1, by omega, by go_num, rfl, rfl, Nat.zero_le _, Lib.hid ?_⟩
  cases quoF false (s.data.toList.drop (at0 + 1)) <;> rfl
 case round =>
  obtain ⟨acc, k, hk, rfl, rfl, rfl, hacc, hq⟩ := hrel
  have hsz : (ba acc).size = acc.length := by show acc.toArray.size = _; simp
  by_cases hlt : k < s.size
  · have hlt' : (k : Int) < s.size := by omega
    have hdr := drop_at5 s k hlt
    have hx := extract_one5 s k hlt
    by_cases hc : s[k] = 39
    · have hc' : (s[k].toNat : Int) = 39 := by rw [hc]; rfl
      by_cases hlt2 : k + 1 < s.size
      · have hlt2' : (k : Int) + 1 < s.size := by omega
        have hdr2 := drop_at5 s (k + 1) hlt2
        by_cases hc2 : s[k + 1] = 39
        · have hc2' : (s[k + 1].toNat : Int) = 39 := by rw [hc2]; rfl
          have Hq2 : Hid (quoF false (s.data.toList.drop (at0 + 1)) = (quoF false (s.data.toList.drop (k + 2))).map fun p => ((acc ++ [39]) ++ p.1, p.2)) := Lib.hid (by
           rw [hq.out, hdr, hdr2, hc, hc2, quoF_two, map_acc])
          clear hdr hdr2 hx hq
          go_wp2
          go_roundw
          case rel => exact ⟨acc ++ [39], k + 2, by omega, by go_num, congrArg Value.string (by rw [show (⟨#[39]⟩ : ByteArray) = ⟨[39].toArray⟩ from rfl]; exact cat_two acc [39]), trivial, by simp; omega, Hq2⟩
          case measure => simp [intOf]; omega
        · have hc2' : ¬ (s[k + 1].toNat : Int) = 39 := fun h => hc2 (UInt8.toNat_inj.1 (by have : (39 : UInt8).toNat = 39 := rfl; omega))
          have hS2 : S = QuoS s.size (some (acc, s.data.toList.drop (k + 1))) := by
           rw [← HS.out, hq.out, hdr, hdr2, hc, quoF_end2 hc2]
           simp
          have HS2 := Lib.hid hS2
          clear hdr hdr2 hx hq hS2
          go_wp2
          refine bodyPost_ret (v := .tuple #[.string (ba acc), .int .i64 ((k : Int) + 1), .bool (decide ((acc.length : Int) ≤ 1000))]) (by simp [results, Tryz.results91, go_sem]) rfl ?_
          rw [HS2.out]
          exact ⟨quo_says acc _ (by rw [List.length_drop, Hls.out]; omega), rfl⟩
      · have hlt2' : ¬ (k : Int) + 1 < s.size := by omega
        have hS2 : S = QuoS s.size (some (acc, [])) := by
         rw [← HS.out, hq.out, hdr, hc]
         have : s.data.toList.drop (k + 1) = [] := List.drop_eq_nil_of_le (by rw [Hls.out]; omega)
         rw [this, quoF_end1]
         simp
        have HS2 := Lib.hid hS2
        have hke : k + 1 = s.size := by omega
        clear hdr hx hq hS2
        go_wp2
        refine bodyPost_ret (v := .tuple #[.string (ba acc), .int .i64 ((k : Int) + 1), .bool (decide ((acc.length : Int) ≤ 1000))]) (by simp [results, Tryz.results91, go_sem]) rfl ?_
        rw [HS2.out]
        exact ⟨quo_says acc _ (by simp; omega), rfl⟩
    · have hc' : ¬ (s[k].toNat : Int) = 39 := fun h => hc (UInt8.toNat_inj.1 (by have : (39 : UInt8).toNat = 39 := rfl; omega))
      have Hq2 : Hid (quoF false (s.data.toList.drop (at0 + 1)) = (quoF false (s.data.toList.drop (k + 1))).map fun p => ((acc ++ [s[k]]) ++ p.1, p.2)) := Lib.hid (by
       rw [hq.out, hdr, quoF_other hc, map_acc])
      clear hdr hq
      go_wp2
      go_roundw
      case rel => exact ⟨acc ++ [s[k]], k + 1, by omega, by go_num, congrArg Value.string (by rw [show (⟨#[s[k]]⟩ : ByteArray) = ⟨[s[k]].toArray⟩ from rfl]; exact cat_two acc [s[k]]), trivial, by simp; omega, Hq2⟩
      case measure => simp [intOf]; omega
  · obtain rfl : k = s.size := by omega
    have hS2 : S = QuoS s.size none := by
     rw [← HS.out, hq.out]
     have : s.data.toList.drop s.size = [] := List.drop_eq_nil_of_le (by rw [Hls.out]; omega)
     rw [this, quoF_nil]
     rfl
    have HS2 := Lib.hid hS2
    clear hq hS2
    go_wp2
    refine bodyPost_ret (v := .tuple #[.string emp, .int .i64 0, .bool false]) (by simp [results, Tryz.results91, go_sem]) rfl ?_
    rw [HS2.out]
    exact ⟨rfl, rfl⟩
structure LxSt (l : List UInt8) (k : Nat) (t : Tk) (j : Nat) (ok : Bool) : Prop where
 no : ok = false → lexL (l.drop k) = none
 yes : ok = true → lexL (l.drop k) = (lexL (l.drop j)).map (t :: ·) ∧ k < j ∧ j ≤ l.length
theorem take_cons {l : List UInt8} {k j : Nat} {c : UInt8} {r : List UInt8} (hd : l.drop k = c :: r) (h : k < j) : (l.drop k).take (j - k) = c :: r.take (j - k - 1) := by
 rw [hd, show j - k = (j - k - 1) + 1 by omega, List.take_succ_cons]
 simp
theorem way_word {l : List UInt8} {k j : Nat} {c : UInt8} {r : List UInt8} (hd : l.drop k = c :: r) (hc : cls c = 2) (h1 : k < j) (h2 : j ≤ l.length) (hall : ∀ x ∈ (l.drop k).take (j - k), inn x = true) (hend : ∀ x, l[j]? = some x → inn x = false) :
 LxSt l k (wrdT ((l.drop k).take (j - k))) j (wordB ((l.drop k).take (j - k))) := by
 obtain ⟨e1, e2⟩ := tw_at inn l k j (by omega) h2 hall hend
 have ht : tokL (c :: r) = some (wrdT ((l.drop k).take (j - k)), l.drop j) := by
  rw [tokL, if_pos hc, ← hd, e1, e2]
 have hc1 : cls c ≠ 1 := by omega
 refine ⟨fun h => ?_, fun h => ⟨?_, h1, h2⟩⟩
 · rw [hd]
   refine lex_bad hc1 fun t q e => ?_
   rw [ht] at e
   obtain ⟨rfl, _⟩ := Prod.mk.inj (Option.some.inj e)
   rw [mayT_wrd]; exact h
 · exact (congrArg lexL hd).trans (lex_one hc1 ht (by rw [mayT_wrd]; exact h))
theorem dig_cls (x : UInt8) : dig x = decide (cls x = 3) := by
 unfold dig isIn
 rw [Bool.eq_iff_iff]
 simp
theorem way_num {l : List UInt8} {k j : Nat} {c : UInt8} {r : List UInt8} (hd : l.drop k = c :: r) (h1 : k < j) (h2 : j ≤ l.length) (hc : cls c = 3 ∨ (cls c = 6 ∧ k + 1 < j)) (hall : ∀ x ∈ (l.drop (k + 1)).take (j - (k + 1)), dig x = true) (hend : ∀ x, l[j]? = some x → dig x = false) :
 LxSt l k (intT (numO (decide (c = 45)) ((l.drop k).take (j - k))).1) j (numO (decide (c = 45)) ((l.drop k).take (j - k))).2 := by
 have hr : l.drop (k + 1) = r := by
  have := congrArg (List.drop 1) hd
  rw [List.drop_drop] at this
  simpa using this
 obtain ⟨e1, e2⟩ := tw_at dig l (k + 1) j (by omega) h2 hall hend
 rw [hr] at e1 e2 hall
 have hN := numT_O (take_cons hd h1)
 have hc1 : cls c ≠ 1 := by omega
 have eW : (l.drop k).take (j - k) = c :: r.takeWhile dig := by
  rw [take_cons hd h1, e1]
  rfl
 have ht : tokL (c :: r) = (numT ((l.drop k).take (j - k))).map fun t => (t, l.drop j) := by
  rcases hc with hc | ⟨hc, hkj⟩
  · have hdc : dig c = true := by rw [dig_cls]; simp [hc]
    rw [tokL, if_neg (by omega), if_pos hc, List.takeWhile_cons_of_pos hdc, List.dropWhile_cons_of_pos hdc, eW, e2]
  · have hne : r.takeWhile dig ≠ [] := by
     rw [e1]
     intro h
     have := congrArg List.length h
     rw [List.length_take, ← hr, List.length_drop] at this
     simp at this
     omega
    rw [tokL, if_neg (by omega), if_neg (by omega), if_neg (by omega), if_pos hc, if_neg hne, eW, e2]
 refine ⟨fun h => ?_, fun h => ⟨?_, h1, h2⟩⟩
 · rw [hd]
   refine lex_bad hc1 fun t q e => ?_
   rw [ht, hN, h] at e
   cases e
 · refine (congrArg lexL hd).trans (lex_one hc1 ?_ (mayT_int _))
   rw [ht, hN, h]
   rfl
theorem quo_drop : ∀ (l : List UInt8) (b : Bool) (u r : List UInt8), quoF b l = some (u, r) → ∃ m, r = l.drop m ∧ m ≤ l.length
 | [], false, u, r, h => by simp [quoF] at h
 | [], true, u, r, h => by simp [quoF] at h; exact ⟨0, by simp [h.2], by simp⟩
 | c :: l, false, u, r, h => by
   rw [quoF] at h
   split at h
   · obtain ⟨m, hm, hl⟩ := quo_drop l true u r h
     exact ⟨m + 1, by rw [hm]; rfl, by simp; omega⟩
   · cases e : quoF false l with
     | none => rw [e] at h; cases h
     | some p =>
       rw [e] at h
       simp at h
       obtain ⟨m, hm, hl⟩ := quo_drop l false p.1 p.2 e
       exact ⟨m + 1, by rw [← h.2, hm]; rfl, by simp; omega⟩
 | c :: l, true, u, r, h => by
   rw [quoF] at h
   split at h
   · cases e : quoF false l with
     | none => rw [e] at h; cases h
     | some p =>
       rw [e] at h
       simp at h
       obtain ⟨m, hm, hl⟩ := quo_drop l false p.1 p.2 e
       exact ⟨m + 1, by rw [← h.2, hm]; rfl, by simp; omega⟩
   · simp at h; exact ⟨0, by rw [← h.2]; rfl, by simp⟩
theorem way_none {l : List UInt8} {k : Nat} {c : UInt8} {r : List UInt8} (hd : l.drop k = c :: r) (hc : cls c = 5) (hq : quoF false (l.drop (k + 1)) = none) (t : Tk) (j : Nat) : LxSt l k t j false := by
 have hr : l.drop (k + 1) = r := by
  have := congrArg (List.drop 1) hd
  rw [List.drop_drop] at this
  simpa using this
 rw [hr] at hq
 refine ⟨fun _ => ?_, fun h => by cases h⟩
 rw [hd]
 refine lex_bad (by omega) fun t q e => ?_
 rw [tokL, if_neg (by omega), if_neg (by omega), if_pos hc, hq] at e
 cases e
theorem way_text {l : List UInt8} {k : Nat} {c : UInt8} {r : List UInt8} (hd : l.drop k = c :: r) (hk : k < l.length) (hc : cls c = 5) {p : List UInt8 × List UInt8} (hq : quoF false (l.drop (k + 1)) = some p) : LxSt l k (strT p.1) (l.length - p.2.length) (decide (p.1.length ≤ 1000)) := by
 obtain ⟨m, hm, hml⟩ := quo_drop _ _ _ _ hq
 rw [List.length_drop] at hml
 have hj : l.drop (l.length - p.2.length) = p.2 := by
  rw [hm, List.drop_drop, List.length_drop]
  congr 1
  omega
 have hlen : p.2.length = l.length - (k + 1 + m) := by rw [hm, List.drop_drop, List.length_drop]
 have hr : l.drop (k + 1) = r := by
  have := congrArg (List.drop 1) hd
  rw [List.drop_drop] at this
  simpa using this
 rw [hr] at hq
 have ht : tokL (c :: r) = some (strT p.1, l.drop (l.length - p.2.length)) := by
  rw [tokL, if_neg (by omega), if_neg (by omega), if_pos hc, hq, hj]
  rfl
 refine ⟨fun h => ?_, fun h => ⟨?_, by omega, by omega⟩⟩
 · rw [hd]
   refine lex_bad (by omega) fun t q e => ?_
   rw [ht] at e
   obtain ⟨rfl, _⟩ := Prod.mk.inj (Option.some.inj e)
   rw [mayT_str]; exact h
 · exact (congrArg lexL hd).trans (lex_one (by omega) ht (by rw [mayT_str]; exact h))
theorem cls7_sgn {c : UInt8} : cls c = 7 → c ∈ sgns := by
 intro h
 unfold cls at h
 repeat' split at h
 all_goals (first | omega | skip)
 rename_i hi
 by_cases hm : c ∈ sgns
 · exact hm
 · have : Lib.indexByte sgns c = -1 := by
    simp only [sgns, List.mem_cons, List.not_mem_nil, or_false, not_or] at hm
    obtain ⟨h0, h1, h2, h3, h4, h5, h6, h7, h8, h9, h10⟩ := hm
    simp [sgns, Lib.indexByte, h0, h1, h2, h3, h4, h5, h6, h7, h8, h9, h10, Ne.symm h0, Ne.symm h1, Ne.symm h2, Ne.symm h3, Ne.symm h4, Ne.symm h5, Ne.symm h6, Ne.symm h7, Ne.symm h8, Ne.symm h9, Ne.symm h10]
   omega
theorem cls_sgn : ∀ c ∈ sgns, cls c = 7 ∨ cls c = 6 := by decide
theorem way_sign {l : List UInt8} {k : Nat} {c : UInt8} {r : List UInt8} (hd : l.drop k = c :: r) (hk : k < l.length) (h1 : cls c ≠ 1) (h2 : cls c ≠ 2) (h3 : cls c ≠ 3) (h5 : cls c ≠ 5) (h6 : cls c = 6 → r.takeWhile dig = []) : LxSt l k (sgnT [c]) (k + 1) (decide (c ∈ sgns)) := by
 have hr : l.drop (k + 1) = r := by
  have := congrArg (List.drop 1) hd
  rw [List.drop_drop] at this
  simpa using this
 by_cases hs : c ∈ sgns
 · have ht : tokL (c :: r) = some (sgnT [c], l.drop (k + 1)) := by
    rcases cls_sgn c hs with h | h
    · rw [tokL, if_neg h2, if_neg h3, if_neg h5, if_neg (by omega), if_pos h, hr]
    · rw [tokL, if_neg h2, if_neg h3, if_neg h5, if_pos h, if_pos (h6 h), hr]
   refine ⟨fun h => ?_, fun h => ⟨?_, by omega, by omega⟩⟩
   · rw [decide_eq_true hs] at h; cases h
   · exact (congrArg lexL hd).trans (lex_one h1 ht (by rw [mayT_sgn]; exact h))
 · refine ⟨fun _ => ?_, fun h => by rw [decide_eq_false hs] at h; cases h⟩
   rw [hd]
   refine lex_bad h1 fun t q e => ?_
   have h6' : cls c ≠ 6 := fun h => hs (by
    have hn := cls_6.1 h
    have : c = 45 := UInt8.toNat_inj.1 (by have : (45 : UInt8).toNat = 45 := rfl; omega)
    rw [this]; decide)
   have h7' : cls c ≠ 7 := fun h => hs (cls7_sgn h)
   rw [tokL, if_neg h2, if_neg h3, if_neg h5, if_neg h6', if_neg h7'] at e
   cases e
theorem tk_more {p : UInt8 → Bool} {l : List UInt8} {a j : Nat} {y : UInt8} (h : ∀ x ∈ (l.drop a).take (j - a), p x = true) (ha : a ≤ j) (hy : l[j]? = some y) (hp : p y = true) : ∀ x ∈ (l.drop a).take (j + 1 - a), p x = true := by
 have e : (l.drop a)[j - a]? = some y := by rw [List.getElem?_drop, show a + (j - a) = j by omega]; exact hy
 rw [show j + 1 - a = (j - a) + 1 by omega, List.take_add_one, e]
 intro x hx
 rcases List.mem_append.1 hx with hx | hx
 · exact h x hx
 · simp at hx; rw [hx]; exact hp
theorem way_numE {l : List UInt8} {k j : Nat} {c : UInt8} {r : List UInt8} (hd : l.drop k = c :: r) (h1 : k < j) (h2 : j ≤ l.length) (hc : cls c = 3 ∨ (cls c = 6 ∧ ∃ y, l[k + 1]? = some y ∧ dig y = true)) (hall : ∀ x ∈ (l.drop (k + 1)).take (j - (k + 1)), dig x = true) (hend : ∀ x, l[j]? = some x → dig x = false) :
 LxSt l k (intT (numO (decide (c = 45)) ((l.drop k).take (j - k))).1) j (numO (decide (c = 45)) ((l.drop k).take (j - k))).2 := by
 refine way_num hd h1 h2 ?_ hall hend
 rcases hc with hc | ⟨hc, y, hy, hdy⟩
 · exact .inl hc
 · refine .inr ⟨hc, ?_⟩
   rcases Nat.lt_or_ge (k + 1) j with h | h
   · exact h
   · have : j = k + 1 := by omega
     rw [this] at hend
     rw [hend y hy] at hdy
     cases hdy
theorem num_all {l : List UInt8} {k j : Nat} {c : UInt8} {r : List UInt8} (hd : l.drop k = c :: r) (h1 : k < j) (hc : cls c = 3 ∨ cls c = 6) (hall : ∀ x ∈ (l.drop (k + 1)).take (j - (k + 1)), dig x = true) : ∀ x ∈ (l.drop k).take (j - k), x = 45 ∨ (48 ≤ x.toNat ∧ x.toNat ≤ 57) := by
 have hr : l.drop (k + 1) = r := by
  have := congrArg (List.drop 1) hd
  rw [List.drop_drop] at this
  simpa using this
 rw [take_cons hd h1]
 intro x hx
 rcases List.mem_cons.1 hx with rfl | hx
 · rcases hc with h | h
   · exact .inr (cls_3.1 h)
   · exact .inl (UInt8.toNat_inj.1 (by have := cls_6.1 h; have h2 : (45 : UInt8).toNat = 45 := rfl; omega))
 · have := hall x (by rw [hr]; rwa [show j - (k + 1) = j - k - 1 by omega])
   rw [dig_cls] at this
   exact .inr (cls_3.1 (of_decide_eq_true this))
set_option pp.deepTerms true
set_option pp.maxSteps 1000000
attribute [local go_sem ↓] Go.wp_at_zero Go.wp_at_succ
structure LxW (g : Nat) (W wx : World) (l : List UInt8) (k : Nat) (t : Tk) (j : Nat) (b : Bool) : Prop where
 bk : Bk wx g (rdT t).toArray 129
 st : LxSt l k t j b
 sz : t.t.size ≤ 20000 ∧ t.v.s.size ≤ 20000
 ap : Apb g W wx
theorem Apb.putb {b : Nat} {v : World} : ∀ (vs : List Value) (w : World) (j : Nat), Apb b v w → Apb b v (putL w b j vs)
 | [], _, _, h => h
 | u :: vs, w, j, h => Apb.putb vs _ (j + 1) (h.set j u)
theorem LxW.put {g : Nat} {W0 W1 : World} {l : List UInt8} {k j : Nat} {b : Bool} {t t0 : Tk} (h : Bk W0 g (rdT t0).toArray 129) (hb : Below W0.heap.size W0 W1) (st : LxSt l k t j b) (sz : t.t.size ≤ 20000 ∧ t.v.s.size ≤ 20000) : LxW g W0 (putL W1 g 0 (rdT t)) l k t j b :=
 ⟨(h.after hb h.lt).put _ rfl, st, sz, Apb.putb _ _ _ ((Apb.refl g W0).then hb (Nat.le_refl _))⟩
theorem LxW.all {g : Nat} {W0 W1 : World} {l : List UInt8} {k j : Nat} {b : Bool} {t : Tk} (h : LxW g W0 W1 l k t j b) : W1.cell? ⟨g, 0, none⟩ = some (.int .i64 t.k) ∧ W1.cell? ⟨g, 1, none⟩ = some (.string t.t) ∧ W1.cell? ⟨g, 2, none⟩ = some (.int .i64 t.v.k) ∧ W1.cell? ⟨g, 3, none⟩ = some (.int .i64 t.v.n) ∧ W1.cell? ⟨g, 4, none⟩ = some (.string t.v.s) ∧ g < W1.heap.size :=
 ⟨h.bk.cell 0, h.bk.cell 1, h.bk.cell 2, h.bk.cell 3, h.bk.cell 4, h.bk.lt⟩
theorem BkT.all {g : Nat} {W1 : World} {t : Tk} (h : Bk W1 g (rdT t).toArray 129) : W1.cell? ⟨g, 0, none⟩ = some (.int .i64 t.k) ∧ W1.cell? ⟨g, 1, none⟩ = some (.string t.t) ∧ W1.cell? ⟨g, 2, none⟩ = some (.int .i64 t.v.k) ∧ W1.cell? ⟨g, 3, none⟩ = some (.int .i64 t.v.n) ∧ W1.cell? ⟨g, 4, none⟩ = some (.string t.v.s) ∧
 W1.frozen? ⟨g, 0, none⟩ = false ∧ W1.frozen? ⟨g, 1, none⟩ = false ∧ W1.frozen? ⟨g, 2, none⟩ = false ∧ W1.frozen? ⟨g, 3, none⟩ = false ∧ W1.frozen? ⟨g, 4, none⟩ = false ∧ g < W1.heap.size :=
 ⟨h.cell 0, h.cell 1, h.cell 2, h.cell 3, h.cell 4, h.thaw 0, h.thaw 1, h.thaw 2, h.thaw 3, h.thaw 4, h.lt⟩
structure NumE (l : List UInt8) (k : Nat) (c : UInt8) (b : Bool) : Prop where
 yes : b = true → cls c = 3 ∨ (cls c = 6 ∧ ∃ y, l[k + 1]? = some y ∧ dig y = true)
 no : b = false → cls c ≠ 3 ∧ (cls c = 6 → (l.drop (k + 1)).takeWhile dig = [])
theorem NumE.minus {l : List UInt8} {k : Nat} {c y : UInt8} (h3 : ¬ cls c = 3) (h6 : c.toNat = 45) (hy : l[k + 1]? = some y) : NumE l k c (decide (cls y = 3)) := by
 refine ⟨fun h => .inr ⟨cls_6.2 h6, y, hy, by rw [dig_cls]; exact h⟩, fun h => ⟨h3, fun _ => ?_⟩⟩
 have hd : l.drop (k + 1) = y :: l.drop (k + 2) := by
  have hlt := (List.getElem?_eq_some_iff.1 hy).1
  rw [List.drop_eq_getElem_cons hlt]
  congr 1
  exact Option.some.inj ((List.getElem?_eq_getElem hlt).symm.trans hy)
 rw [hd, List.takeWhile_cons_of_neg (by rw [dig_cls, h]; decide)]
theorem NumE.last {l : List UInt8} {k : Nat} {c : UInt8} (h3 : ¬ cls c = 3) (hy : l[k + 1]? = none) : NumE l k c false := by
 refine ⟨(fun h => by cases h), fun _ => ⟨h3, fun _ => ?_⟩⟩
 rw [List.drop_eq_nil_of_le (List.getElem?_eq_none_iff.1 hy)]
 rfl
theorem NumE.none {l : List UInt8} {k : Nat} {c : UInt8} (h3 : ¬ cls c = 3) (h6 : ¬ c.toNat = 45) : NumE l k c false :=
 ⟨(fun h => by cases h), fun _ => ⟨h3, fun h => absurd (cls_6.1 h) h6⟩⟩
set_option maxHeartbeats 2000000 in
theorem rlex_s (s : ByteArray) (w : World) (h2 : s.size ≤ 20000) :
 Calls Tryz.prog 60 #[.string s] w fun e w' => ∃ v n, e = .returned (.tuple #[v, .int .i64 n]) ∧ LexS (lexL s.data.toList) v n w.heap.size w' ∧ Below w.heap.size w w' := by
 obtain ⟨Out, hOut⟩ : ∃ Out : Value → Int → Nat → World → Prop, LexS (lexL s.data.toList) = Out := ⟨_, rfl⟩
 rw [hOut]
 have HO := Lib.hid hOut
 have hls : s.data.toList.length = s.size := Array.length_toList
 have Hls := Lib.hid hls
 clear hOut hls
 have HO0 : Hid (OwnG (w.alloc (.cells #[] 129)) w.heap.size 129 5 rdT (.slice (some ⟨w.heap.size, 0, none⟩) 0 0) []) := Lib.hid (OwnG.made w w.heap.size 129 #[] 0 (Nat.le_refl _) (by decide) rfl)
 have HB0 : Hid (Below w.heap.size w (w.alloc (.cells #[] 129))) := Lib.hid (below_one w _)
 go_enter Tryz.func60, Tryz.ntmps60
 go_wp2_with fail
 go_loopw [4, 5] (fun o i wr => ∃ (k : Nat) (ts : List Tk), k ≤ s.size ∧ i = .int .i64 (k : Int) ∧ Hid (OwnG wr w.heap.size 129 5 rdT o ts) ∧ Hid (lexL s.data.toList = (lexL (s.data.toList.drop k)).map (ts ++ ·)) ∧ ts.length ≤ k ∧ Hid (Below w.heap.size w wr)) (fun _ i _ => s.size - (intOf i).toNat)
 case atStart => exact ⟨0, [], Nat.zero_le _, by go_num, HO0, Lib.hid (by cases hq : lexL s.data.toList <;> simp [hq]), Nat.zero_le _, HB0⟩
 case round =>
  clear HO0 HB0
  obtain ⟨k, ts, hk, rfl, ho, hx, hts, hb⟩ := hrel
  by_cases hlt : k < s.size
  · have hlt' : (k : Int) < s.size := by omega
    have Hdr := Lib.hid (drop_at5 s k hlt)
    have hex := extract_one5 s k hlt
    obtain ⟨c, hc⟩ : ∃ c, s[k] = c := ⟨_, rfl⟩
    rw [hc] at Hdr hex
    obtain ⟨W, hW⟩ : ∃ W, wr.alloc (.cells (rdT (sgnT [c])).toArray 129) = W := ⟨_, rfl⟩
    have HW : Hid (wr.alloc (.cells #[.int .i64 2, .string ⟨[c].toArray⟩, .int .i64 0, .int .i64 0, .string ⟨#[]⟩] 129) = W) := hW
    have HK : Hid (Bk W wr.heap.size (rdT (sgnT [c])).toArray 129) := Lib.hid (by rw [← hW]; exact Bk.new wr _ _)
    have hsz : W.heap.size = wr.heap.size + 1 := by rw [← hW]; simp
    have HBW : Hid (Below w.heap.size w W) := Lib.hid (by rw [← hW]; exact hb.out.alloc hb.out.size _)
    have HOW : Hid (OwnG W w.heap.size 129 5 rdT u4 ts) := Lib.hid (by rw [← hW]; exact ho.out.alloc _)
    have Hsz := Lib.hid hsz
    clear hW hsz
    go_wp2_with fail
    rw [HW.out]
    refine (rsign_c c W).mono ?_
    rintro e w1 ⟨rfl, hw1⟩
    rw [hw1]
    clear hw1
    by_cases hbl : cls c = 1
    · have hc1 : (c.toNat : Int) = 32 := by have := cls_1.1 hbl; omega
      have Hx2 : Hid (lexL s.data.toList = (lexL (s.data.toList.drop (k + 1))).map (ts ++ ·)) := Lib.hid (by rw [hx.out, Hdr.out, lex_blank hbl])
      go_wp2
      go_roundw
      case rel => exact ⟨k + 1, ts, by omega, by go_num, HOW, Hx2, by omega, HBW⟩
      case measure => simp [intOf]; omega
    · have hc1 : ¬ (c.toNat : Int) = 32 := fun h => hbl (cls_1.2 (by omega))
      go_upto_if 40 with fail
      refine (rletter_c c _).mono ?_
      rintro e w1 ⟨rfl, hw1⟩
      rw [hw1]
      clear hw1
      obtain ⟨D, hD⟩ : ∃ D, decide (cls c = 2) = D := ⟨_, rfl⟩
      rw [hD]
      have HD := Lib.hid hD
      clear hD
      go_upto_if 40 with fail
      go_cut [6, 7, 9, 10, 11, 12, 13, 14] from 19 to 125 (fun _ q ok _ _ _ _ _ wx => ∃ (t : Tk) (j : Nat) (b : Bool), q = .int .i64 (j : Int) ∧ ok = .bool b ∧ Hid (LxW wr.heap.size W wx s.data.toList k t j b))
      case first =>
       cases D
       case true =>
        have HD := Lib.hid (of_decide_eq_true HD.out)
        have HA0 : Hid (∀ x ∈ (s.data.toList.drop k).take (k + 1 - k), inn x = true) := Lib.hid (by
         rw [take_cons Hdr.out (by omega), show k + 1 - k - 1 = 0 by omega, List.take_zero]
         intro x hx
         simp at hx
         rw [hx]
         exact inn_iff.2 (.inl HD.out))
        go_wp2_with fail
        go_loopw [7] (fun i wx => ∃ j : Nat, k < j ∧ j ≤ s.size ∧ i = .int .i64 (j : Int) ∧ W = wx ∧ Hid (∀ x ∈ (s.data.toList.drop k).take (j - k), inn x = true)) (fun i _ => s.size - (intOf i).toNat)
        case atStart => exact ⟨k + 1, by omega, by omega, by go_num, rfl, HA0⟩
        case round =>
         obtain ⟨j, h1j, h2j, rfl, rfl, hal⟩ := hrel
         by_cases hj : j < s.size
         · have hj' : (j : Int) < s.size := by omega
           obtain ⟨y, hy⟩ : ∃ y, s[j] = y := ⟨_, rfl⟩
           have Hy : Hid (s.data.toList[j]? = some y) := Lib.hid (by rw [← hy]; exact List.getElem?_eq_getElem (by rw [Hls.out]; exact hj))
           go_wp2_with fail
           refine (rinner_c y _).mono ?_
           rintro e w2 ⟨rfl, hw2⟩
           rw [hw2]
           clear hw2
           obtain ⟨Z, hZ⟩ : ∃ Z, inn y = Z := ⟨_, rfl⟩
           rw [hZ]
           cases Z
           · have HEnd : Hid (∀ x, s.data.toList[j]? = some x → inn x = false) := Lib.hid (fun x hx => by rw [Hy.out] at hx; obtain rfl := Option.some.inj hx; exact hZ)
             clear hZ hy hj' hj
             obtain ⟨X, hX⟩ : ∃ X, (s.data.toList.drop k).take (j - k) = X := ⟨_, rfl⟩
             have hex2 : s.extract k j = ba X := by rw [Lib.extract_eq, hX]
             have hXl : X.length ≤ 20000 := by rw [← hX, List.length_take, List.length_drop, Hls.out]; omega
             have Hst := Lib.hid (way_word Hdr.out HD.out h1j (by rw [Hls.out]; exact h2j) hal.out HEnd.out)
             rw [hX] at Hst
             have HXl := Lib.hid hXl
             obtain ⟨n0, n1, n2, n3, n4, z0, z1, z2, z3, z4, hlt1⟩ := BkT.all HK.out
             clear hX hXl hal HEnd
             go_wp2_with fail
             refine (rword_c X _ (by have := HXl.out; unfold maxLen; omega)).mono ?_
             rintro e w2 ⟨rfl, hw2⟩
             rw [hw2]
             clear hw2
             go_wp2_with fail
             go_meet
             exact ⟨wrdT X, j, wordB X, rfl, rfl, Lib.hid (LxW.put (t := wrdT X) (W1 := W) HK.out (Below.refl _ _) Hst.out ⟨by rw [show (wrdT X).t = ba X from rfl, ba_size]; exact HXl.out, Nat.zero_le _⟩)⟩
           · have Hal2 := Lib.hid (tk_more hal.out (by omega) Hy.out (hZ))
             clear hZ hy hal
             go_wp2
             go_roundw
             case rel => exact ⟨j + 1, by omega, by omega, by go_num, trivial, Hal2⟩
             case measure => simp [intOf]; omega
         · have HEnd : Hid (∀ x, s.data.toList[j]? = some x → inn x = false) := Lib.hid (fun x hx => by rw [List.getElem?_eq_none (by rw [Hls.out]; omega)] at hx; cases hx)
           have hj' : ¬ (j : Int) < s.size := by omega
           clear hj
           obtain ⟨X, hX⟩ : ∃ X, (s.data.toList.drop k).take (j - k) = X := ⟨_, rfl⟩
           have hex2 : s.extract k j = ba X := by rw [Lib.extract_eq, hX]
           have hXl : X.length ≤ 20000 := by rw [← hX, List.length_take, List.length_drop, Hls.out]; omega
           have Hst := Lib.hid (way_word Hdr.out HD.out h1j (by rw [Hls.out]; exact h2j) hal.out HEnd.out)
           rw [hX] at Hst
           have HXl := Lib.hid hXl
           obtain ⟨n0, n1, n2, n3, n4, z0, z1, z2, z3, z4, hlt1⟩ := BkT.all HK.out
           clear hX hXl hal HEnd
           go_wp2_with fail
           refine (rword_c X _ (by have := HXl.out; unfold maxLen; omega)).mono ?_
           rintro e w2 ⟨rfl, hw2⟩
           rw [hw2]
           clear hw2
           go_wp2_with fail
           go_meet
           exact ⟨wrdT X, j, wordB X, rfl, rfl, Lib.hid (LxW.put (t := wrdT X) (W1 := W) HK.out (Below.refl _ _) Hst.out ⟨by rw [show (wrdT X).t = ba X from rfl, ba_size]; exact HXl.out, Nat.zero_le _⟩)⟩
       case false =>
        have HD := Lib.hid (of_decide_eq_false HD.out)
        go_upto_region 17 with fail
        go_cut [6, 80] (fun c6 q wx => ∃ E0 : Bool, c6 = .int .u8 (c.toNat : Int) ∧ q = .bool E0 ∧ W = wx ∧ Hid (NumE s.data.toList k c E0))
        case first =>
         have HC := Lib.hid (rdigit_c c W)
         obtain ⟨Z, hZ⟩ : ∃ Z, decide (cls c = 3) = Z := ⟨_, rfl⟩
         rw [hZ] at HC
         have HZ := Lib.hid hZ
         clear hZ
         cases Z
         case true =>
          have HE : Hid (NumE s.data.toList k c true) := Lib.hid ⟨fun _ => .inl (of_decide_eq_true HZ.out), fun h => by cases h⟩
          go_wp2_with fail
          refine HC.out.mono ?_
          rintro e w2 ⟨rfl, hw2⟩
          rw [hw2]
          clear hw2
          go_wp2_with fail
          go_meet
          exact ⟨true, rfl, rfl, rfl, HE⟩
         case false =>
          by_cases h45 : c.toNat = 45
          · by_cases hj : k + 1 < s.size
            · obtain ⟨y, hy⟩ : ∃ y, s[k + 1] = y := ⟨_, rfl⟩
              have Hy : Hid (s.data.toList[k + 1]? = some y) := Lib.hid (by rw [← hy]; exact List.getElem?_eq_getElem (by rw [Hls.out]; exact hj))
              have HE : Hid (NumE s.data.toList k c (decide (cls y = 3))) := Lib.hid (NumE.minus (of_decide_eq_false HZ.out) h45 Hy.out)
              have H45 := Lib.hid h45
              clear h45
              go_wp2_with fail
              refine HC.out.mono ?_
              rintro e w2 ⟨rfl, hw2⟩
              rw [hw2]
              clear hw2
              have h45 : (c.toNat : Int) = 45 := by have := H45.out; omega
              have hj' : (k : Int) + 1 < s.size := by omega
              go_wp2_with fail
              refine (rdigit_c y _).mono ?_
              rintro e w2 ⟨rfl, hw2⟩
              rw [hw2]
              clear hw2
              obtain ⟨Y, hY⟩ : ∃ Y, decide (cls y = 3) = Y := ⟨_, rfl⟩
              rw [hY] at HE ⊢
              clear hY
              go_wp2_with fail
              go_meet
              exact ⟨Y, by rw [H45.out]; rfl, rfl, rfl, HE⟩
            · have HE : Hid (NumE s.data.toList k c false) := Lib.hid (NumE.last (of_decide_eq_false HZ.out) (List.getElem?_eq_none (by rw [Hls.out]; omega)))
              have H45 := Lib.hid h45
              clear h45
              go_wp2_with fail
              refine HC.out.mono ?_
              rintro e w2 ⟨rfl, hw2⟩
              rw [hw2]
              clear hw2
              have h45 : (c.toNat : Int) = 45 := by have := H45.out; omega
              have hj' : ¬ (k : Int) + 1 < s.size := by omega
              clear hj
              go_wp2_with fail
              go_meet
              exact ⟨false, by rw [H45.out]; rfl, rfl, rfl, HE⟩
          · have HE : Hid (NumE s.data.toList k c false) := Lib.hid (NumE.none (of_decide_eq_false HZ.out) h45)
            have h45' : ¬ (c.toNat : Int) = 45 := by omega
            go_wp2_with fail
            refine HC.out.mono ?_
            rintro e w2 ⟨rfl, hw2⟩
            rw [hw2]
            clear hw2
            go_wp2_with fail
            go_meet
            exact ⟨false, rfl, rfl, rfl, HE⟩
        case rest =>
         obtain ⟨E0, hc6, hE0, hwc, HE⟩ := hcut
         subst hc6
         subst hE0
         subst hwc
         go_upto_if 80 with fail
         cases E0
         case true =>
          have Hcl : Hid (cls c = 3 ∨ cls c = 6) := Lib.hid ((HE.out.yes rfl).elim .inl fun h => .inr h.1)
          go_wp2_with fail
          go_loopw [7] (fun i wx => ∃ j : Nat, k < j ∧ j ≤ s.size ∧ i = .int .i64 (j : Int) ∧ W = wx ∧ Hid (∀ x ∈ (s.data.toList.drop (k + 1)).take (j - (k + 1)), dig x = true)) (fun i _ => s.size - (intOf i).toNat)
          case atStart => exact ⟨k + 1, by omega, by omega, by go_num, rfl, Lib.hid (by simp)⟩
          case round =>
           obtain ⟨j, h1j, h2j, rfl, rfl, hal⟩ := hrel
           by_cases hj : j < s.size
           · have hj' : (j : Int) < s.size := by omega
             obtain ⟨y, hy⟩ : ∃ y, s[j] = y := ⟨_, rfl⟩
             have Hy : Hid (s.data.toList[j]? = some y) := Lib.hid (by rw [← hy]; exact List.getElem?_eq_getElem (by rw [Hls.out]; exact hj))
             go_wp2_with fail
             refine (rdigit_c y _).mono ?_
             rintro e w2 ⟨rfl, hw2⟩
             rw [hw2]
             clear hw2
             obtain ⟨Z, hZ⟩ : ∃ Z, decide (cls y = 3) = Z := ⟨_, rfl⟩
             rw [hZ]
             cases Z
             · have HEnd : Hid (∀ x, s.data.toList[j]? = some x → dig x = false) := Lib.hid (fun x hx => by rw [Hy.out] at hx; obtain rfl := Option.some.inj hx; rw [dig_cls]; exact hZ)
               clear hZ hy hj' hj
               obtain ⟨R, hR⟩ : ∃ R, (s.data.toList.drop (k + 1)).take (j - k - 1) = R := ⟨_, rfl⟩
               have hXc : (s.data.toList.drop k).take (j - k) = c :: R := by rw [take_cons Hdr.out h1j, hR]
               have hex2 : s.extract k j = ba (c :: R) := by rw [Lib.extract_eq, hXc]
               have hXa := num_all Hdr.out h1j Hcl.out hal.out
               have hst := way_numE Hdr.out h1j (by rw [Hls.out]; exact h2j) (HE.out.yes rfl) hal.out HEnd.out
               have hXl : (c :: R).length ≤ 20000 := by rw [← hXc, List.length_take, List.length_drop, Hls.out]; omega
               rw [hXc] at hst hXa
               have hnm := rnumber_c c R W hXl hXa
               obtain ⟨⟨n, okn⟩, hN⟩ : ∃ N, numO (decide (c = 45)) (c :: R) = N := ⟨_, rfl⟩
               rw [hN] at hnm hst
               have Hst := Lib.hid hst
               have HNm := Lib.hid hnm
               clear hst hnm hXa hXl hXc hR hN hal HEnd
               go_wp2_with fail
               refine HNm.out.mono ?_
               rintro e w2 ⟨rfl, hb2⟩
               have Hb2 := Lib.hid hb2
               clear hb2 HNm
               go_wp2_with fail
               refine (rint_c n w2).mono ?_
               rintro e w3 ⟨rfl, hb3⟩
               have Hb3 := Lib.hid (below_via Hb2.out hb3)
               obtain ⟨n0, n1, n2, n3, n4, z0, z1, z2, z3, z4, hlt1⟩ := BkT.all (HK.out.after Hb3.out HK.out.lt)
               clear hb3 Hb2
               simp only [iv, Val.v]
               go_wp2_with fail
               go_meet
               exact ⟨intT n, j, okn, rfl, rfl, Lib.hid (LxW.put (t := intT n) (W1 := w3) HK.out Hb3.out Hst.out ⟨Nat.zero_le _, Nat.zero_le _⟩)⟩
             · have Hal2 := Lib.hid (tk_more hal.out (by omega) Hy.out ((dig_cls y).trans hZ))
               clear hZ hy hal
               go_wp2
               go_roundw
               case rel => exact ⟨j + 1, by omega, by omega, by go_num, trivial, Hal2⟩
               case measure => simp [intOf]; omega
           · have HEnd : Hid (∀ x, s.data.toList[j]? = some x → dig x = false) := Lib.hid (fun x hx => by rw [List.getElem?_eq_none (by rw [Hls.out]; omega)] at hx; cases hx)
             have hj' : ¬ (j : Int) < s.size := by omega
             clear hj
             obtain ⟨R, hR⟩ : ∃ R, (s.data.toList.drop (k + 1)).take (j - k - 1) = R := ⟨_, rfl⟩
             have hXc : (s.data.toList.drop k).take (j - k) = c :: R := by rw [take_cons Hdr.out h1j, hR]
             have hex2 : s.extract k j = ba (c :: R) := by rw [Lib.extract_eq, hXc]
             have hXa := num_all Hdr.out h1j Hcl.out hal.out
             have hst := way_numE Hdr.out h1j (by rw [Hls.out]; exact h2j) (HE.out.yes rfl) hal.out HEnd.out
             have hXl : (c :: R).length ≤ 20000 := by rw [← hXc, List.length_take, List.length_drop, Hls.out]; omega
             rw [hXc] at hst hXa
             have hnm := rnumber_c c R W hXl hXa
             obtain ⟨⟨n, okn⟩, hN⟩ : ∃ N, numO (decide (c = 45)) (c :: R) = N := ⟨_, rfl⟩
             rw [hN] at hnm hst
             have Hst := Lib.hid hst
             have HNm := Lib.hid hnm
             clear hst hnm hXa hXl hXc hR hN hal HEnd
             go_wp2_with fail
             refine HNm.out.mono ?_
             rintro e w2 ⟨rfl, hb2⟩
             have Hb2 := Lib.hid hb2
             clear hb2 HNm
             go_wp2_with fail
             refine (rint_c n w2).mono ?_
             rintro e w3 ⟨rfl, hb3⟩
             have Hb3 := Lib.hid (below_via Hb2.out hb3)
             obtain ⟨n0, n1, n2, n3, n4, z0, z1, z2, z3, z4, hlt1⟩ := BkT.all (HK.out.after Hb3.out HK.out.lt)
             clear hb3 Hb2
             simp only [iv, Val.v]
             go_wp2_with fail
             go_meet
             exact ⟨intT n, j, okn, rfl, rfl, Lib.hid (LxW.put (t := intT n) (W1 := w3) HK.out Hb3.out Hst.out ⟨Nat.zero_le _, Nat.zero_le _⟩)⟩
         case false =>
          by_cases h39 : c.toNat = 39
          · have H39 : Hid ((c.toNat : Int) = 39) := Lib.hid (by omega)
            have hc5 := cls_5.2 h39
            have hq0 := rquo_c s k hlt h2 W
            obtain ⟨o, hoq⟩ : ∃ o, quoF false (s.data.toList.drop (k + 1)) = o := ⟨_, rfl⟩
            rw [hoq] at hq0
            have HQ := Lib.hid hq0
            obtain ⟨n0, n1, n2, n3, n4, z0, z1, z2, z3, z4, hlt1⟩ := BkT.all HK.out
            cases o with
            | none =>
              have HL := Lib.hid (LxW.put (t := strT []) (W1 := W) HK.out (Below.refl _ _) (way_none Hdr.out hc5 hoq (strT []) 0) ⟨Nat.zero_le _, Nat.zero_le _⟩)
              clear hq0 hoq hc5 h39
              have h39 := H39.out
              go_wp2_with fail
              refine HQ.out.mono ?_
              rintro e w2 ⟨he, hw2⟩
              rw [hw2]
              clear hw2
              obtain rfl : e = .returned (.tuple #[.string emp, .int .i64 0, .bool false]) := he
              go_wp2_with fail
              go_meet
              exact ⟨strT [], 0, false, rfl, rfl, HL⟩
            | some p =>
              obtain ⟨u, q⟩ := p
              have hwt := way_text Hdr.out (by rw [Hls.out]; exact hlt) hc5 hoq
              have hul := quo_len _ _ _ _ hoq
              rw [List.length_drop, Hls.out] at hul
              rw [Hls.out] at hwt
              have HL := Lib.hid (LxW.put (t := strT u) (W1 := W) HK.out (Below.refl _ _) hwt ⟨Nat.zero_le _, by rw [show (strT u).v.s = ba u from rfl, ba_size]; omega⟩)
              clear hq0 hoq hc5 hwt hul h39
              have h39 := H39.out
              go_wp2_with fail
              refine HQ.out.mono ?_
              rintro e w2 ⟨he, hw2⟩
              rw [hw2]
              clear hw2
              obtain rfl : e = .returned (.tuple #[.string (ba u), .int .i64 ((s.size - q.length : Nat) : Int), .bool (decide (u.length ≤ 1000))]) := he
              go_wp2_with fail
              go_meet
              exact ⟨strT u, s.size - q.length, decide (u.length ≤ 1000), rfl, rfl, HL⟩
          · have h39' : ¬ (c.toNat : Int) = 39 := by omega
            have HL := Lib.hid (show LxW wr.heap.size W W s.data.toList k (sgnT [c]) (k + 1) (decide (c ∈ sgns)) from ⟨HK.out, way_sign Hdr.out (by rw [Hls.out]; exact hlt) hbl HD.out (HE.out.no rfl).1 (fun h => h39 (cls_5.1 h)) (HE.out.no rfl).2, ⟨by rw [show (sgnT [c]).t = ba [c] from rfl, ba_size]; simp, Nat.zero_le _⟩, Apb.refl _ _⟩)
            go_wp2_with fail
            go_meet
            exact ⟨sgnT [c], k + 1, decide (c ∈ sgns), by go_num, rfl, HL⟩
      case rest =>
       obtain ⟨t, j, b, hq, hok, hL⟩ := hcut
       subst hq
       subst hok
       obtain ⟨d0, d1, d2, d3, d4, hlt1⟩ := hL.out.all
       have HOc : Hid (OwnG wc w.heap.size 129 5 rdT u4 ts) := Lib.hid (HOW.out.same fun q hq => hL.out.ap.other q (HOW.out.lt q hq).2 (by have := (ho.out.lt q hq).2; omega))
       have HBc : Hid (Below w.heap.size w wc) := Lib.hid (HBW.out.trans ((hL.out.ap.below (by have := HK.out.lt; omega)).mono hb.out.size))
       have hts2 : ts.length ≤ s.size := by omega
       cases b
       case false =>
        have HN := Lib.hid (hL.out.st.no rfl)
        clear hL HOc
        go_wp2
        go_ret2
        refine ⟨_, _, rfl, ?_, HBc.out⟩
        rw [← HO.out, hx.out, HN.out]
        exact ⟨rfl, rfl⟩
       case true =>
        obtain ⟨hN, hkj, hjl⟩ := hL.out.st.yes rfl
        rw [Hls.out] at hjl
        have HN := Lib.hid hN
        have hgB : w.heap.size ≤ wc.heap.size := HBc.out.size
        clear hN hL
        go_wp2_with (at_builtin; go_must (
         refine wpList_appG tOk rfl (.tmp 121) (.tmp 123) rfl w.heap.size _ ts [t] (some ⟨wc.heap.size, 0, none⟩) 1 1 rfl (HOc.out.alloc _) rfl rfl (SlG.new tOk.len [t] rfl) (by simp [maxLen]; omega) (by simp; omega) (by simp; omega) ?_
         intro v4 w4 hv4 hg4
         have HO4 := Lib.hid hv4
         have HB4 := Lib.hid ((HBc.out.alloc HBc.out.size _).grown hg4 (by simp; omega) (fun k hk => by have := (HOc.out.lt k hk).1; omega))
         clear hv4 hg4))
        go_roundw
        case rel => exact ⟨j, ts ++ [t], hjl, rfl, HO4, Lib.hid (by rw [hx.out, HN.out]; cases lexL (s.data.toList.drop j) <;> simp), by simp; omega, HB4⟩
        case measure => simp [intOf]; omega
  · obtain rfl : k = s.size := by omega
    have HN : Hid (lexL (s.data.toList.drop s.size) = some []) := Lib.hid (by rw [List.drop_eq_nil_of_le (by rw [Hls.out]; omega)]; exact lex_nil)
    clear hlt
    go_wp2
    go_ret2
    refine ⟨_, _, rfl, ?_, hb.out⟩
    rw [← HO.out, hx.out, HN.out]
    have h1 := ho.out
    rw [← List.append_nil ts] at h1
    exact ⟨rfl, h1, by simp; omega⟩
end Go.Proofs.YtjgpmnffagdhlaaGreatDoor
namespace Go.Proofs.YtjgpmnffagdhlaaGreatDoor
open Go Go.RowKit
set_option maxRecDepth 100000
theorem Pq.all {w : World} {b : Nat} {l : List Tk} {ok : Bool} (h : Pq w b l ok) {A : Option Addr} {n c : Nat} (h0 : w.cell? ⟨b, 0, none⟩ = some (.slice A n c)) :
 ∃ k : Nat, w.cell? ⟨b, 1, none⟩ = some (.int .i64 (k : Int)) ∧ w.cell? ⟨b, 2, none⟩ = some (.bool ok) ∧ b < w.heap.size ∧ decide ((k : Int) < n) = !l.isEmpty := by
 obtain ⟨A', n', c', k, xs, h1, h2, h3, h4, h5, h6, h7⟩ := h
 have e := h1.cell 0
 rw [h0] at e
 obtain ⟨rfl, rfl, rfl⟩ : A = A' ∧ n = n' ∧ c = c' := by simpa using e
 refine ⟨k, h1.cell 1, h1.cell 2, h1.lt, ?_⟩
 have hl : l.length = n - k := by rw [← h6, List.length_drop, h2]
 cases l with
 | nil => simp at hl ⊢; omega
 | cons a r => simp at hl ⊢; omega
theorem Pq.new {w : World} {A : Option Addr} {c : Nat} {ts : List Tk} (hn : ts.length ≤ 20000) (hm : ∀ t ∈ ts, mayT t = true) (hs : Tks w w.heap.size A ts) :
 Pq (w.alloc (.cells #[.slice A ts.length c, .int .i64 0, .bool true] 105)) w.heap.size ts true :=
 ⟨A, ts.length, c, 0, ts, Bk.new w _ _, rfl, hn, Nat.zero_le _, hs.same fun k hk => Below.heap_alloc w _ k hk, rfl, hm⟩
theorem parse_po_t {ts l1 l2 : List Tk} {ok1 ok2 : Bool} {t : Tb} (h1 : PO true ok1 (oneP [w_table, w_view] ts) 0 l1) (hok : ok1 = true) (h2 : PO ok1 ok2 (tableP l1) t l2) :
 parseD ts = if ok2 && l2.isEmpty then some ⟨0, t, vw0⟩ else none := by
 have e1 := h1.2 hok
 unfold parseD
 rw [e1]
 simp only [Option.bind_some, if_true]
 subst hok
 cases ok2
 · have := h2.1
   simp only [Bool.true_and] at this
   rw [Option.isSome_eq_false_iff.1 this.symm |> Option.isNone_iff_eq_none.1]
   rfl
 · rw [h2.2 rfl]
   rfl
theorem parse_po_v {ts l1 l2 : List Tk} {ok1 ok2 : Bool} {k : Int} {t : Vw} (h1 : PO true ok1 (oneP [w_table, w_view] ts) k l1) (hok : ok1 = true) (hk : k ≠ 0) (h2 : PO ok1 ok2 (viewP l1) t l2) :
 parseD ts = if ok2 && l2.isEmpty then some ⟨1, tb0, t⟩ else none := by
 have e1 := h1.2 hok
 unfold parseD
 rw [e1]
 simp only [Option.bind_some, if_neg hk]
 subst hok
 cases ok2
 · have := h2.1
   simp only [Bool.true_and] at this
   rw [Option.isSome_eq_false_iff.1 this.symm |> Option.isNone_iff_eq_none.1]
   rfl
 · rw [h2.2 rfl]
   rfl
theorem parse_po_n {ts l1 : List Tk} {k : Int} (h1 : PO true false (oneP [w_table, w_view] ts) k l1) : parseD ts = none := by
 have := h1.1
 simp only [Bool.true_and] at this
 unfold parseD
 rw [Option.isSome_eq_false_iff.1 this.symm |> Option.isNone_iff_eq_none.1]
 rfl
structure PJ (w : World) (g D : Nat) (A : Option Addr) (n c : Nat) (wx : World) (y : Dm) (l : List Tk) (ok : Bool) : Prop where
 q : Pq wx g l ok
 c0 : wx.cell? ⟨g, 0, none⟩ = some (.slice A n c)
 r : BkD wx w.heap.size dm0
 d : BkD wx D y
 bl : Below w.heap.size w wx
 g1 : w.heap.size < g
 g2 : g < D
theorem PJ.step {w wx wy : World} {g D n c : Nat} {A : Option Addr} {y : Dm} {l q : List Tk} {ok k : Bool} (h : PJ w g D A n c wx y l ok) (hp : Pq wy g q k) (ha : Apq g wx wy) : PJ w g D A n c wy y q k :=
 have h1 := h.g1
 have h2 := h.g2
 ⟨hp, (ha.c0 h.q.lt).trans h.c0, Bk.keptq h.r ha (by omega), Bk.keptq h.d ha (by omega), ⟨ha.os.trans h.bl.os, ha.tape.trans h.bl.tape, ha.output.trans h.bl.output, Nat.le_trans h.bl.size ha.size, fun k hk => (ha.other k (Nat.lt_of_lt_of_le hk h.bl.size) (by omega)).trans (h.bl.block k hk)⟩, h1, h2⟩
theorem PJ.put {w wx : World} {g D n c : Nat} {A : Option Addr} {y y' : Dm} {l : List Tk} {ok : Bool} (h : PJ w g D A n c wx y l ok) (j : Nat) (vs : List Value) (hd : BkD (putL wx D j vs) D y') : PJ w g D A n c (putL wx D j vs) y' l ok :=
 have h1 := h.g1
 have h2 := h.g2
 ⟨h.q.put h2 j vs, (cell_same (putL_heap vs wx D j g (by omega))).trans h.c0, (putL_heap vs wx D j _ (by omega)).trans h.r, hd, below_put0 h.bl (by omega) vs j, h1, h2⟩
set_option maxHeartbeats 1000000 in
theorem rparse_c (l : List UInt8) (w : World) (hl : l.length ≤ 20000) :
 Calls Tryz.prog 35 #[.string (ba l)] w fun e w' => PrsS l w e w' := by
 have hbl : (ba l).data.toList = l := rfl
 have hL := rlex_s (ba l) (w.alloc (.cells dm0.cl.toArray 34)) (by rw [ba_size]; exact hl)
 rw [hbl] at hL
 have HL := Lib.hid hL
 have HB0 : Hid (BkD (w.alloc (.cells dm0.cl.toArray 34)) w.heap.size dm0) := Lib.hid (Bk.new w _ _)
 have hlo : lexO l = lexL l := by unfold lexO; rw [if_pos hl]
 obtain ⟨S, hS⟩ : ∃ S, PrsS l w = S := ⟨_, rfl⟩
 rw [hS]
 have HS := Lib.hid hS
 have Hlo := Lib.hid hlo
 clear hS hlo hl hL hbl
 go_enter Tryz.func35, Tryz.ntmps35
 go_wp2_with fail
 refine HL.out.mono ?_
 rintro e w1 ⟨v, n, rfl, hls, hb⟩
 have hbw : Below w.heap.size w w1 := (below_one w _).trans (hb.mono (by simp))
 have Hbw := Lib.hid hbw
 have HB1 : Hid (BkD w1 w.heap.size dm0) := Lib.hid (Bk.after HB0.out hb (by simp))
 have hlt : w.heap.size < w1.heap.size := HB1.out.lt
 cases hq : lexL l with
 | none =>
   rw [hq] at hls
   have Hq := Lib.hid (Hlo.out.trans hq)
   obtain ⟨rfl, rfl⟩ := hls
   obtain ⟨d0, d1, d2, d3, d4, d5, d6, d7, d8, d9, d10, d11, d12, hlB⟩ := HB1.out.all
   obtain ⟨z0, z1, z2, z3, z4, z5, z6, z7, z8, z9, z10, z11, z12⟩ := HB1.out.thaw
   clear hq hb hbw HL HB0
   go_wp2
   refine ret_df2 (b := w.heap.size) (x := dm0) (z := .int .i64 60) Tryz.results35 rfl rfl (Bk.put HB1.out dm0.cl rfl) rfl ?_
   rw [← HS.out]
   unfold PrsS
   rw [Hq.out]
   have hfin : Below w.heap.size w (putL w1 w.heap.size 0 dm0.cl) := below_put0 Hbw.out (Nat.le_refl _) _ _
   exact ⟨rfl, hfin⟩
 | some ts =>
   rw [hq] at hls
   have hmay := tok_lm hq
   have Hq := Lib.hid (Hlo.out.trans hq)
   obtain ⟨rfl, ho, hln⟩ := hls
   obtain ⟨A, c, hv, hnc, hcm, hsl⟩ := ho.sl tOk.len
   subst hv
   have hP0 : Pq (w1.alloc (.cells #[.slice A ts.length c, .int .i64 0, .bool true] 105)) w1.heap.size ts true := Pq.new hln hmay (by
    rcases hsl with h | ⟨b0, off, hA, hlt0, h⟩
    · exact .inl h
    · exact .inr ⟨b0, off, hA, hlt0, h⟩)
   obtain ⟨W, hW⟩ : ∃ W, w1.alloc (.cells #[.slice A ts.length c, .int .i64 0, .bool true] 105) = W := ⟨_, rfl⟩
   have hWs : W.heap.size = w1.heap.size + 1 := by rw [← hW]; simp
   have hc0 : W.cell? ⟨w1.heap.size, 0, none⟩ = some (.slice A ts.length c) := by rw [← hW]; exact (Bk.new w1 _ _).cell 0
   have HC0 := Lib.hid hc0
   rw [hW] at hP0
   have HP0 := Lib.hid hP0
   have HBW : Hid (BkD W w.heap.size dm0) := Lib.hid (by rw [← hW]; exact Bk.after HB1.out (below_one _ _) hlt)
   have HbW : Hid (Below w.heap.size w W) := Lib.hid (by rw [← hW]; exact Hbw.out.alloc Hbw.out.size _)
   have HN := Lib.hid (oneW_c w1.heap.size ts true [w_table, w_view] (by decide) W hP0)
   rw [hWs] at HN
   have HW := Lib.hid hW
   have HWs := Lib.hid hWs
   clear hq hb hbw hP0 hW hWs hc0 hmay ho hsl HL HB0 HB1 Hbw Hlo
   go_wp2_with fail
   rw [HW.out]
   refine HN.out.mono ?_
   rintro e w2 ⟨⟨k, l1, ok1, rfl, hk, hp1, hpo1⟩, ha1⟩
   obtain ⟨W3, hW3⟩ : ∃ W3, w2.alloc (.cells (⟨k, tm0, vm0⟩ : Dm).cl.toArray 34) = W3 := ⟨_, rfl⟩
   have hz2 : W3.heap.size = w2.heap.size + 1 := by rw [← hW3]; simp
   have hgs := ha1.size
   rw [HWs.out] at hgs
   have hlt2 : w1.heap.size < w2.heap.size := hgs
   have hJ : PJ w w1.heap.size w2.heap.size A ts.length c W3 ⟨k, tm0, vm0⟩ l1 ok1 := by
    rw [← hW3]
    refine ⟨hp1.alloc _, (cell_same (Below.heap_alloc w2 _ _ hlt2)).trans ((ha1.c0 (by rw [HWs.out]; omega)).trans HC0.out), Bk.after (Bk.keptq HBW.out ha1 (by omega)) (below_one _ _) (by omega), Bk.new _ _ _, ?_, hlt, hlt2⟩
    exact (⟨ha1.os.trans HbW.out.os, ha1.tape.trans HbW.out.tape, ha1.output.trans HbW.out.output, Nat.le_trans HbW.out.size ha1.size, fun k hk => (ha1.other k (Nat.lt_of_lt_of_le hk HbW.out.size) (by omega)).trans (HbW.out.block k hk)⟩ : Below w.heap.size w w2).alloc (Nat.le_trans HbW.out.size ha1.size) _
   have HJ := Lib.hid hJ
   have Hpo1 := Lib.hid hpo1
   have Hk := Lib.hid hk
   have Hz2 := Lib.hid hz2
   have HW3 : Hid (w2.alloc (.cells #[.int .i64 k, .string ⟨#[]⟩, .slice none 0 0, .slice none 0 0, .string ⟨#[]⟩, .string ⟨#[]⟩, .string ⟨#[]⟩, .int .i64 0, .int .i64 0, .slice none 0 0, .slice none 0 0, .bool false, .slice none 0 0] 34) = W3) := hW3
   clear hp1 hpo1 ha1 hk hz2 hW3 hJ hgs HN HW HP0 HBW HbW HWs HC0
   go_upto_region 6 with fail
   rw [HW3.out]
   go_cut [32] (fun q wx => q = .bool (ok1 && (k == 0)) ∧ W3 = wx)
   case first =>
    obtain ⟨kk, p1, p2, hgl, _⟩ := HJ.out.q.all HJ.out.c0
    obtain ⟨c0, _, _, _, _, _, _, _, _, _, _, _, _, hlC⟩ := HJ.out.d.all
    cases ok1
    case false =>
     go_wp2_with fail
     go_meet
     exact ⟨rfl, rfl⟩
    case true =>
     go_wp2_with fail
     go_meet
     exact ⟨rfl, rfl⟩
   case rest =>
   obtain ⟨hq32, hwc⟩ := hcut
   subst hq32
   subst hwc
   obtain ⟨kz, hkz⟩ : ∃ z, (ok1 && (k == 0)) = z := ⟨_, rfl⟩
   rw [hkz]
   have Hkz := Lib.hid hkz
   clear hkz
   go_upto_if 32 with fail
   go_cut [32] (fun _ wx => ∃ (y : Dm) (l2 : List Tk) (ok2 : Bool), Hid (PJ w w1.heap.size w2.heap.size A ts.length c wx y l2 ok2) ∧ Hid (y.In wx ∧ y.Lo (w.heap.size + 1)) ∧ Hid (parseD ts = if ok2 && l2.isEmpty then some y.df else none))
   case first =>
    obtain ⟨kk, p1, p2, hgl, _⟩ := HJ.out.q.all HJ.out.c0
    obtain ⟨c0, c1, c2, c3, c4, c5, c6, c7, c8, c9, c10, c11, c12, hlC⟩ := HJ.out.d.all
    cases ok1
    case false =>
     obtain rfl : false = kz := Hkz.out
     have HT := Lib.hid (parse_po_n Hpo1.out)
     go_wp2_with fail
     go_meet
     exact ⟨⟨k, tm0, vm0⟩, l1, false, HJ, Lib.hid ⟨⟨tm0_in _, vm0_in _⟩, tm0_lo _, vm0_lo _⟩, Lib.hid (by rw [HT.out]; rfl)⟩
    case true =>
     by_cases hk0 : k = 0
     · have HQ := Lib.hid (qtable_c w1.heap.size l1 true W3 HJ.out.q)
       subst hk0
       obtain rfl : true = kz := Hkz.out
       go_wp2_with fail
       refine HQ.out.mono ?_
       rintro e w4 ⟨x, l2, ok2, rfl, hxi, hxl, hp, hpo, ha⟩
       have hJ4 := HJ.out.step hp ha
       have HT := Lib.hid (parse_po_t Hpo1.out rfl hpo)
       obtain ⟨b0, b1, b2, b3, _, _, _, _, _, _, _, _, _, hlD⟩ := hJ4.d.all
       obtain ⟨f0, f1, f2, f3, _⟩ := hJ4.d.thaw
       have HJ5 := Lib.hid (hJ4.put (y' := ⟨0, x, vm0⟩) 1 [.string x.name, .slice x.cols.A x.cols.n x.cols.c, .slice x.chks.A x.chks.n x.chks.c] (Bk.set (Bk.set (Bk.set hJ4.d 1 (.string x.name)) 2 (.slice x.cols.A x.cols.n x.cols.c)) 3 (.slice x.chks.A x.chks.n x.chks.c)))
       have HI5 : Hid (x.In (putL w4 w2.heap.size 1 [.string x.name, .slice x.cols.A x.cols.n x.cols.c, .slice x.chks.A x.chks.n x.chks.c]) ∧ x.Lo (w.heap.size + 1)) := Lib.hid ⟨hxi.same hxl (Nat.le_of_eq (putL_size _ _ _ _).symm) fun k hk => putL_heap _ _ _ _ _ (by rw [Hz2.out] at hk; omega), hxl.mono (by rw [Hz2.out]; omega)⟩
       clear hxi hxl hp hpo ha hJ4 HQ c0 c1 c2 c3 c4 c5 c6 c7 c8 c9 c10 c11 c12 hlC p1 p2
       go_wp2_with fail
       go_meet
       exact ⟨⟨0, x, vm0⟩, l2, ok2, HJ5, Lib.hid ⟨⟨HI5.out.1, vm0_in _⟩, HI5.out.2, vm0_lo _⟩, Lib.hid HT.out⟩
     · have HQ := Lib.hid (qview_c w1.heap.size l1 true W3 HJ.out.q)
       have hk1 : k ≠ 0 := hk0
       have hb1 := one_bd (Hpo1.out.2 rfl)
       obtain rfl : k = 1 := by have h2 := hb1.2; simp at h2; have h1 := hb1.1; omega
       clear hb1
       have hkb : ((1 : Int) == 0) = false := by decide
       obtain rfl : false = kz := by have := Hkz.out; rw [hkb] at this; exact this
       have Hk1 := Lib.hid hk1
       clear hk0 hk1
       go_wp2_with fail
       refine HQ.out.mono ?_
       rintro e w4 ⟨x, l2, ok2, rfl, hxi, hxl, hp, hpo, ha⟩
       have hJ4 := HJ.out.step hp ha
       have HT := Lib.hid (parse_po_v Hpo1.out rfl Hk1.out hpo)
       obtain ⟨b0, b1, b2, b3, b4, b5, b6, b7, b8, b9, b10, b11, b12, hlD⟩ := hJ4.d.all
       obtain ⟨f0, f1, f2, f3, f4, f5, f6, f7, f8, f9, f10, f11, f12⟩ := hJ4.d.thaw
       have HJ5 := Lib.hid (hJ4.put (y' := ⟨1, tm0, x⟩) 4 [.string x.name, .string x.frm, .string x.wth, .int .i64 x.on0, .int .i64 x.on1, .slice x.whr.A x.whr.n x.whr.c, .slice x.pick.A x.pick.n x.pick.c, .bool x.grp, .slice x.aggs.A x.aggs.n x.aggs.c] (Bk.putF [.string x.name, .string x.frm, .string x.wth, .int .i64 x.on0, .int .i64 x.on1, .slice x.whr.A x.whr.n x.whr.c, .slice x.pick.A x.pick.n x.pick.c, .bool x.grp, .slice x.aggs.A x.aggs.n x.aggs.c] w4 w2.heap.size 4 _ hJ4.d rfl))
       have HI5 : Hid (x.In (putL w4 w2.heap.size 4 [.string x.name, .string x.frm, .string x.wth, .int .i64 x.on0, .int .i64 x.on1, .slice x.whr.A x.whr.n x.whr.c, .slice x.pick.A x.pick.n x.pick.c, .bool x.grp, .slice x.aggs.A x.aggs.n x.aggs.c]) ∧ x.Lo (w.heap.size + 1)) := Lib.hid ⟨hxi.same hxl (Nat.le_of_eq (putL_size _ _ _ _).symm) fun k hk => putL_heap _ _ _ _ _ (by rw [Hz2.out] at hk; omega), hxl.mono (by rw [Hz2.out]; omega)⟩
       clear hxi hxl hp hpo ha hJ4 HQ c0 c1 c2 c3 c4 c5 c6 c7 c8 c9 c10 c11 c12 hlC p1 p2 hkb
       go_wp2_with fail
       go_meet
       exact ⟨⟨1, tm0, x⟩, l2, ok2, HJ5, Lib.hid ⟨⟨tm0_in _, HI5.out.1⟩, tm0_lo _, HI5.out.2⟩, Lib.hid HT.out⟩
   case rest =>
    obtain ⟨y, l2, ok2, hJ, hI, hT⟩ := hcut
    clear HJ Hk Hkz Hpo1
    obtain ⟨kk, p1, p2, hgl, hd⟩ := hJ.out.q.all hJ.out.c0
    have p0 := hJ.out.c0
    obtain ⟨c0, c1, c2, c3, c4, c5, c6, c7, c8, c9, c10, c11, c12, hlC⟩ := hJ.out.d.all
    obtain ⟨d0, d1, d2, d3, d4, d5, d6, d7, d8, d9, d10, d11, d12, hlB⟩ := hJ.out.r.all
    obtain ⟨z0, z1, z2, z3, z4, z5, z6, z7, z8, z9, z10, z11, z12⟩ := hJ.out.r.thaw
    obtain ⟨E, hE⟩ : ∃ E, l2.isEmpty = E := ⟨_, rfl⟩
    rw [hE] at hT hd
    have Hd := Lib.hid hd
    obtain ⟨X, hX⟩ : ∃ X, decide ((kk : Int) < ts.length) = X := ⟨_, rfl⟩
    have HX := Lib.hid (hX.symm.trans hd)
    clear hd hE Hd
    have hfin0 : Below w.heap.size w (putL wc w.heap.size 0 dm0.cl) := below_put0 hJ.out.bl (Nat.le_refl _) _ _
    have Hfin0 := Lib.hid hfin0
    have Hfail : Hid (parseD ts = none → S (.returned (.tuple #[dm0.w, .int .i64 70])) (putL wc w.heap.size 0 dm0.cl)) := Lib.hid (fun h => by
     rw [← HS.out]
     unfold PrsS
     rw [Hq.out]
     simp only [h]
     exact ⟨trivial, hfin0⟩)
    clear hfin0
    cases ok2
    case false =>
     have HF := Lib.hid (Hfail.out hT.out)
     clear Hfail
     go_wp2
     exact ret_df2 (b := w.heap.size) (x := dm0) (z := .int .i64 70) Tryz.results35 rfl rfl (Bk.put hJ.out.r dm0.cl rfl) rfl HF.out
    case true =>
     cases E
     case false =>
      have hX1 : (kk : Int) < ts.length := of_decide_eq_true (hX.trans HX.out)
      clear hX HX
      have HF := Lib.hid (Hfail.out hT.out)
      clear Hfail
      go_wp2
      exact ret_df2 (b := w.heap.size) (x := dm0) (z := .int .i64 70) Tryz.results35 rfl rfl (Bk.put hJ.out.r dm0.cl rfl) rfl HF.out
     case true =>
      have hX1 : ¬ (kk : Int) < ts.length := of_decide_eq_false (hX.trans HX.out)
      clear hX HX
      have hP1 : (putL wc w.heap.size 0 y.cl).heap.size = wc.heap.size := putL_size _ _ _ _
      have hI2 := hI.out
      have hin : y.In (putL wc w.heap.size 0 y.cl) := ⟨hI2.1.t.same hI2.2.t (Nat.le_of_eq hP1.symm) fun k hk => putL_heap _ _ _ _ _ (by omega), hI2.1.v.same hI2.2.v (Nat.le_of_eq hP1.symm) fun k hk => putL_heap _ _ _ _ _ (by omega)⟩
      have hF : S (.returned (.tuple #[y.w, .int .i64 0])) (putL wc w.heap.size 0 y.cl) := by
       rw [← HS.out]
       unfold PrsS
       rw [Hq.out]
       have hp : parseD ts = some y.df := hT.out
       simp only [hp]
       exact ⟨y, rfl, hin, hI2.2.mono (by omega), rfl, below_put0 hJ.out.bl (Nat.le_refl _) _ _⟩
      have HF := Lib.hid hF
      clear Hfail hF hin hI2 hP1
      go_wp2
      change bodyPost _ _ _ _ _ (putL wc w.heap.size 0 y.cl)
      have hbk := Bk.put hJ.out.r y.cl rfl
      exact ret_df2 (b := w.heap.size) (x := y) (z := .int .i64 0) Tryz.results35 rfl rfl hbk rfl HF.out
attribute [local go_sem ↓] Go.wp_at_zero Go.wp_at_succ
theorem dfE_cases (l : List UInt8) (h : l.length ≤ 20000) : (lexO l).bind parseD = readD l := by
 unfold readD lexO
 rw [if_pos h]
theorem PrsS.one {l : List UInt8} {w w' : World} {e : Ending} (hl : l.length ≤ 20000) (h : PrsS l w e w') : ∃ (x : Dm) (n : Int), e = .returned (.tuple #[x.w, .int .i64 n]) ∧ x.In w' ∧ Below w.heap.size w w' ∧ ((n ≠ 0 ∧ readD l = none) ∨ (n = 0 ∧ readD l = some x.df)) := by
 rw [← dfE_cases l hl]
 unfold PrsS at h
 cases hq : lexO l with
 | none =>
   rw [hq] at h
   exact ⟨dm0, 60, h.1, dm0_in _, h.2, .inl ⟨by decide, rfl⟩⟩
 | some ts =>
   rw [hq] at h
   cases hq2 : parseD ts with
   | none =>
     simp only [hq2] at h
     exact ⟨dm0, 70, h.1, dm0_in _, h.2, .inl ⟨by decide, hq2⟩⟩
   | some d =>
     simp only [hq2] at h
     obtain ⟨x, h1, h2, h3, h4, h5⟩ := h
     exact ⟨x, 0, h1, h2, h5, .inr ⟨rfl, by rw [h4]; exact hq2⟩⟩
set_option maxHeartbeats 8000000 in
theorem rprint7_c (x : Dm) (w : World) (hi : x.In w) (hf : x.t.Few ∧ x.v.Few) (h6 : D64 x.df) :
 Calls Tryz.prog 15 #[x.w] w fun e w' => (∃ t, e = .returned (.string (ba t)) ∧ PrT x.df t) ∧ Below w.heap.size w w' := by
 obtain ⟨W, hW⟩ : ∃ W, w.alloc (.cells x.cl.toArray 34) = W := ⟨_, rfl⟩
 have HW : Hid (w.alloc (.cells #[.int .i64 x.k, .string x.t.name, .slice x.t.cols.A x.t.cols.n x.t.cols.c, .slice x.t.chks.A x.t.chks.n x.t.chks.c, .string x.v.name, .string x.v.frm, .string x.v.wth, .int .i64 x.v.on0, .int .i64 x.v.on1, .slice x.v.whr.A x.v.whr.n x.v.whr.c, .slice x.v.pick.A x.v.pick.n x.v.pick.c, .bool x.v.grp, .slice x.v.aggs.A x.v.aggs.n x.v.aggs.c] 34) = W) := hW
 have hB : Below w.heap.size w W := by rw [← hW]; exact below_one _ _
 have HB := Lib.hid hB
 have HK : Hid (BkD W w.heap.size x) := Lib.hid (by rw [← hW]; exact Bk.new _ _ _)
 have HI : Hid (x.In W) := Lib.hid (hi.after hB)
 have HF := Lib.hid hf
 have hgo : ∀ t, (20000 < (txR x.df).length → t = []) → ((txR x.df).length ≤ 20000 → readD (txR x.df) = some x.df → t = txR x.df) → ((txR x.df).length ≤ 20000 → readD (txR x.df) ≠ some x.df → t = []) → PrT x.df t := fun t h1 h2 h3 => prR_prt h6 h1 h2 h3
 obtain ⟨S, hS⟩ : ∃ S, PrT x.df = S := ⟨_, rfl⟩
 rw [hS] at hgo
 simp only [hS]
 have HGo := Lib.hid hgo
 have HC := Lib.hid (rview_c x.v W HI.out.v hf.2)
 obtain ⟨c0, c1, c2, c3, c4, c5, c6, c7, c8, c9, c10, c11, c12, hlt⟩ := HK.out.all
 clear hW hB hi hf hgo hS
 go_enter Tryz.func15, Tryz.ntmps15
 go_upto_region 1 with fail
 rw [HW.out]
 go_wp2_with fail
 refine HC.out.mono ?_
 rintro e w1 ⟨he, hb1⟩
 obtain ⟨V, hV⟩ : ∃ V, w_view ++ jt (vwR x.v.vw) = V := ⟨_, rfl⟩
 rw [hV] at he
 subst he
 have HV := Lib.hid hV
 have HK1 : Hid (BkD w1 w.heap.size x) := Lib.hid (Bk.after HK.out hb1 HK.out.lt)
 have HI1 := Lib.hid (HI.out.after hb1)
 have HB1 := Lib.hid (below_via HB.out hb1)
 clear hb1 hV c0 c1 c2 c3 c4 c5 c6 c7 c8 c9 c10 c11 c12 hlt
 obtain ⟨c0, c1, c2, c3, c4, c5, c6, c7, c8, c9, c10, c11, c12, hlt⟩ := HK1.out.all
 go_upto_if 11 with fail
 go_cut [3] (fun s wx => s = .string (ba (txR x.df)) ∧ Hid (BkD wx w.heap.size x) ∧ Hid (x.In wx) ∧ Hid (Below w.heap.size w wx))
 case first =>
  by_cases h0 : x.k = 0
  · have HT : Hid (w_table ++ jt (tbR x.t.tb) = txR x.df) := Lib.hid (by unfold txR Dm.df; rw [if_pos h0])
    have HCt := Lib.hid (rtable_c x.t w1 HI1.out.t HF.out.1)
    rw [HT.out] at HCt
    go_wp2_with fail
    refine HCt.out.mono ?_
    rintro e w2 ⟨rfl, hb2⟩
    have HK2 : Hid (BkD w2 w.heap.size x) := Lib.hid (Bk.after HK1.out hb2 HK1.out.lt)
    have HI2 := Lib.hid (HI1.out.after hb2)
    have HB2 := Lib.hid (below_via HB1.out hb2)
    clear hb2
    go_wp2
    go_meet
    exact ⟨rfl, HK2, HI2, HB2⟩
  · have HT : Hid (ba V = ba (txR x.df)) := Lib.hid (by rw [← HV.out]; unfold txR Dm.df; rw [if_neg h0])
    have h0b : (x.k == 0) = false := by simpa using h0
    clear h0
    go_wp2_with fail
    go_meet
    exact ⟨by rw [HT.out], HK1, HI1, HB1⟩
 case rest =>
  obtain ⟨hs, hK, hI, hb⟩ := hcut
  subst hs
  obtain ⟨T, hT⟩ : ∃ T, txR x.df = T := ⟨_, rfl⟩
  rw [hT] at HGo
  rw [hT]
  have hTs := ba_sz T
  clear hT HK HI HB HK1 HI1 HB1 HV HC c0 c1 c2 c3 c4 c5 c6 c7 c8 c9 c10 c11 c12 hlt
  by_cases hl : 20000 < T.length
  · have hl' : (20000 : Int) < T.length := by omega
    have HS : Hid (S []) := Lib.hid (HGo.out [] (fun _ => rfl) (fun h => by omega) (fun h => by omega))
    clear hl HGo
    go_wp2
    go_ret
    exact ⟨⟨[], rfl, HS.out⟩, hb.out⟩
  · have hl' : ¬ (20000 : Int) < T.length := by omega
    have HP := Lib.hid (rparse_c T wc (by omega))
    have Hl := Lib.hid (show T.length ≤ 20000 by omega)
    clear hl
    go_wp2_with fail
    refine HP.out.mono ?_
    rintro e w2 hp
    obtain ⟨y, n, rfl, hyi, hb2, hcase⟩ := hp.one Hl.out
    obtain ⟨w3, hw3⟩ : ∃ w3, w2.alloc (.cells y.cl.toArray 34) = w3 := ⟨_, rfl⟩
    have HW3 : Hid (w2.alloc (.cells #[.int .i64 y.k, .string y.t.name, .slice y.t.cols.A y.t.cols.n y.t.cols.c, .slice y.t.chks.A y.t.chks.n y.t.chks.c, .string y.v.name, .string y.v.frm, .string y.v.wth, .int .i64 y.v.on0, .int .i64 y.v.on1, .slice y.v.whr.A y.v.whr.n y.v.whr.c, .slice y.v.pick.A y.v.pick.n y.v.pick.c, .bool y.v.grp, .slice y.v.aggs.A y.v.aggs.n y.v.aggs.c] 34) = w3) := hw3
    have hb3 : Below wc.heap.size wc w3 := by rw [← hw3]; exact below_al hb2 _
    have HKx : Hid (BkD w3 w.heap.size x) := Lib.hid (Bk.after hK.out hb3 hK.out.lt)
    have HKy : Hid (BkD w3 w2.heap.size y) := Lib.hid (by rw [← hw3]; exact Bk.new _ _ _)
    have HIx := Lib.hid (hI.out.after hb3)
    have HIy : Hid (y.In w3) := Lib.hid (by rw [← hw3]; exact hyi.after (below_one _ _))
    have HB3 := Lib.hid (below_via hb.out hb3)
    have Hcase := Lib.hid hcase
    clear hp hyi hb2 hcase hw3 hb3 hK hI hb HP
    go_upto_region 7 with fail
    rw [HW3.out]
    obtain ⟨c0, c1, c2, c3, c4, c5, c6, c7, c8, c9, c10, c11, c12, hlt⟩ := HKx.out.all
    obtain ⟨d0, d1, d2, d3, d4, d5, d6, d7, d8, d9, d10, d11, d12, hltd⟩ := HKy.out.all
    by_cases hn : n = 0
    · have hr : readD T = some y.df := by
       rcases Hcase.out with h | h
       · exact absurd hn h.1
       · exact h.2
      have hnb : (n != 0) = false := by simpa using hn
      have HS1 : Hid (x.df = y.df → S T) := Lib.hid (fun h => HGo.out T (fun h => by have := Hl.out; omega) (fun _ _ => rfl) (fun _ h2 => absurd (by rw [hr, h]) h2))
      have HS0 : Hid (x.df ≠ y.df → S []) := Lib.hid (fun h => HGo.out [] (fun h => rfl) (fun _ h2 => absurd (by rw [hr] at h2; exact (Option.some.inj h2).symm) h) (fun _ _ => rfl))
      have HSm := Lib.hid (sameD_c x y w3 HIx.out HIy.out)
      clear hn hr HGo
      go_wp2_with fail
      refine HSm.out.mono ?_
      rintro e w4 ⟨rfl, hb4⟩
      have HB4 := Lib.hid (below_via HB3.out hb4)
      obtain ⟨D, hD⟩ : ∃ D, decide (x.df = y.df) = D := ⟨_, rfl⟩
      rw [hD]
      have HD := Lib.hid hD
      clear hb4 hD c0 c1 c2 c3 c4 c5 c6 c7 c8 c9 c10 c11 c12 hlt d0 d1 d2 d3 d4 d5 d6 d7 d8 d9 d10 d11 d12 hltd
      cases D
      · have HS := Lib.hid (HS0.out (of_decide_eq_false HD.out))
        go_wp2
        go_ret
        exact ⟨⟨[], rfl, HS.out⟩, HB4.out⟩
      · have HS := Lib.hid (HS1.out (of_decide_eq_true HD.out))
        go_wp2
        go_ret
        exact ⟨⟨T, rfl, HS.out⟩, HB4.out⟩
    · have hr : readD T = none := by
       rcases Hcase.out with h | h
       · exact h.2
       · exact absurd h.1 hn
      have hnb : (n != 0) = true := by simpa using hn
      have HS : Hid (S []) := Lib.hid (HGo.out [] (fun _ => rfl) (fun _ h => by rw [hr] at h; cases h) (fun _ _ => rfl))
      clear hn hr HGo
      go_wp2
      go_ret
      exact ⟨⟨[], rfl, HS.out⟩, HB3.out⟩
end Go.Proofs.YtjgpmnffagdhlaaGreatDoor
namespace Go.Proofs.YtjgpmnffagdhlaaGreatDoor
open Go Go.RowKit
set_option maxRecDepth 100000
theorem dec_empty {s : List UInt8} {u : ByteArray} {D : Bool} (hu : ba s = u) (hD : decide (s ≠ []) = D) : u.toList.isEmpty = !D := by
 subst hu
 rw [ByteArray.toList_eq]
 show s.isEmpty = !D
 rw [← hD]
 cases s <;> simp
set_option maxHeartbeats 16000000 in
theorem prints7_w (x : Dm) (w : World) (hG : Gw w.heap.size w) (hx : x.In w) (tx : x.Tx) (zx : x.Z) (rx : x.Rch) :
 Calls Tryz.prog 3 #[x.w] w fun e w' => e = .returned (.bool true) ∧ Below w.heap.size w w' := by
 have HG := Lib.hid hG
 obtain ⟨w0, hw0⟩ : ∃ w0, w.alloc (.cells #[.int .i64 x.k, .string x.t.name, .slice x.t.cols.A x.t.cols.n x.t.cols.c, .slice x.t.chks.A x.t.chks.n x.t.chks.c, .string x.v.name, .string x.v.frm, .string x.v.wth, .int .i64 x.v.on0, .int .i64 x.v.on1, .slice x.v.whr.A x.v.whr.n x.v.whr.c, .slice x.v.pick.A x.v.pick.n x.v.pick.c, .bool x.v.grp, .slice x.v.aggs.A x.v.aggs.n x.v.aggs.c] 34) = w0 := ⟨_, rfl⟩
 have HB0 : Hid (Below w.heap.size w w0) := Lib.hid (by rw [← hw0]; exact below_one w _)
 have HI0 : Hid (x.In w0) := Lib.hid (hx.after HB0.out)
 have HK0 : Hid (BkD w0 w.heap.size x) := Lib.hid (by rw [← hw0]; exact Bk.new w _ _)
 have HW0 := Lib.hid hw0
 have HX := Lib.hid tx
 have HZ := Lib.hid (And.intro zx rx)
 obtain ⟨c0, c1, c2, c3, c4, c5, c6, c7, c8, c9, c10, c11, c12, hlt⟩ := HK0.out.all
 clear hG hx tx zx rx hw0
 go_enter Tryz.func3, Tryz.ntmps3
 go_upto_region 1 with fail
 rw [HW0.out]
 go_wp2_with fail
 refine (bigD_c x w0 HI0.out HX.out).mono ?_
 rintro e w1 ⟨⟨b, rfl, hsm⟩, hb⟩
 have HB1 := Lib.hid (below_via HB0.out hb)
 have HI1 := Lib.hid (HI0.out.after hb)
 have HK1 : Hid (BkD w1 w.heap.size x) := Lib.hid (Bk.after HK0.out hb HK0.out.lt)
 have Hsm := Lib.hid hsm
 clear hb hsm c0 c1 c2 c3 c4 c5 c6 c7 c8 c9 c10 c11 c12 hlt
 cases b
 case true =>
  go_wp2_with fail
  refine (fixed7_c w1 ((HG.out.below HB1.out).up HB1.out.size)).mono ?_
  rintro e w2 ⟨rfl, hb⟩
  have HB2 := Lib.hid (below_via HB1.out hb)
  clear hb
  go_wp2
  go_ret
  exact ⟨rfl, HB2.out⟩
 case false =>
  have HO : Hid (DfOk x.df) := Lib.hid (sm_ok (Hsm.out rfl) HZ.out.1)
  have HFw := Lib.hid ((Hsm.out rfl).few HZ.out.2 HZ.out.1 HI1.out)
  obtain ⟨c0, c1, c2, c3, c4, c5, c6, c7, c8, c9, c10, c11, c12, hlt⟩ := HK1.out.all
  have HSt : Hid (∀ w', Below w1.heap.size w1 w' → (w'.cell? ⟨w.heap.size, 0, none⟩ = some (.int .i64 x.k) ∧ w'.cell? ⟨w.heap.size, 1, none⟩ = some (.string x.t.name) ∧ w'.cell? ⟨w.heap.size, 2, none⟩ = some (.slice x.t.cols.A x.t.cols.n x.t.cols.c) ∧ w'.cell? ⟨w.heap.size, 3, none⟩ = some (.slice x.t.chks.A x.t.chks.n x.t.chks.c) ∧ w'.cell? ⟨w.heap.size, 4, none⟩ = some (.string x.v.name) ∧ w'.cell? ⟨w.heap.size, 5, none⟩ = some (.string x.v.frm) ∧ w'.cell? ⟨w.heap.size, 6, none⟩ = some (.string x.v.wth) ∧ w'.cell? ⟨w.heap.size, 7, none⟩ = some (.int .i64 x.v.on0) ∧ w'.cell? ⟨w.heap.size, 8, none⟩ = some (.int .i64 x.v.on1) ∧ w'.cell? ⟨w.heap.size, 9, none⟩ = some (.slice x.v.whr.A x.v.whr.n x.v.whr.c) ∧ w'.cell? ⟨w.heap.size, 10, none⟩ = some (.slice x.v.pick.A x.v.pick.n x.v.pick.c) ∧ w'.cell? ⟨w.heap.size, 11, none⟩ = some (.bool x.v.grp) ∧ w'.cell? ⟨w.heap.size, 12, none⟩ = some (.slice x.v.aggs.A x.v.aggs.n x.v.aggs.c))) := Lib.hid fun w' hb => by
   have hk : BkD w' w.heap.size x := Bk.after HK1.out hb HK1.out.lt
   exact ⟨hk.cell 0, hk.cell 1, hk.cell 2, hk.cell 3, hk.cell 4, hk.cell 5, hk.cell 6, hk.cell 7, hk.cell 8, hk.cell 9, hk.cell 10, hk.cell 11, hk.cell 12⟩
  have HFx := Lib.hid (fixed7_c w1.drew ((HG.out.below HB1.out.drew).up HB1.out.drew.size))
  clear Hsm
  go_wp2_with fail
  go_region_held3 (fun w' => w'.cell? ⟨w.heap.size, 0, none⟩ = some (.int .i64 x.k) ∧ w'.cell? ⟨w.heap.size, 1, none⟩ = some (.string x.t.name) ∧ w'.cell? ⟨w.heap.size, 2, none⟩ = some (.slice x.t.cols.A x.t.cols.n x.t.cols.c) ∧ w'.cell? ⟨w.heap.size, 3, none⟩ = some (.slice x.t.chks.A x.t.chks.n x.t.chks.c) ∧ w'.cell? ⟨w.heap.size, 4, none⟩ = some (.string x.v.name) ∧ w'.cell? ⟨w.heap.size, 5, none⟩ = some (.string x.v.frm) ∧ w'.cell? ⟨w.heap.size, 6, none⟩ = some (.string x.v.wth) ∧ w'.cell? ⟨w.heap.size, 7, none⟩ = some (.int .i64 x.v.on0) ∧ w'.cell? ⟨w.heap.size, 8, none⟩ = some (.int .i64 x.v.on1) ∧ w'.cell? ⟨w.heap.size, 9, none⟩ = some (.slice x.v.whr.A x.v.whr.n x.v.whr.c) ∧ w'.cell? ⟨w.heap.size, 10, none⟩ = some (.slice x.v.pick.A x.v.pick.n x.v.pick.c) ∧ w'.cell? ⟨w.heap.size, 11, none⟩ = some (.bool x.v.grp) ∧ w'.cell? ⟨w.heap.size, 12, none⟩ = some (.slice x.v.aggs.A x.v.aggs.n x.v.aggs.c))
   (first
     | exact HSt.out _ HbS.out
     | go_keep)
   (first
     | (go_at_call 13
        refine HFx.out.mono ?_
        rintro e w10 ⟨rfl, hb⟩
        have HbS : Hid (Below w1.heap.size w1 w10) := Lib.hid (below_via (Below.refl w1.heap.size w1).drew hb)
        have HPx := Lib.hid (dprint_c x w10 ((HG.out.below (below_via HB1.out HbS.out)).up (below_via HB1.out HbS.out).size) (HI1.out.after HbS.out) HO.out)
        clear hb HFx)
     | (go_at_call 14
        refine HPx.out.mono ?_
        rintro e w11 ⟨s, rfl, hp, hl, hb⟩
        have HbT : Hid (Below w1.heap.size w1 w11) := Lib.hid (below_via HbS.out hb)
        have Hp := Lib.hid hp
        have HRx := Lib.hid (rprint7_c x w11 (HI1.out.after HbT.out) HFw.out HO.out.d64)
        obtain ⟨D, hD⟩ : ∃ D, decide (s ≠ []) = D := ⟨_, rfl⟩
        obtain ⟨u, hu⟩ : ∃ u, ba s = u := ⟨_, rfl⟩
        have hem := dec_empty hu hD
        have HD := Lib.hid hD
        have Hu := Lib.hid hu
        rw [hu]
        clear hp hl hb HPx HbS hD hu
        have HbS := HbT
        clear HbT)
     | (go_at_call 15
        refine HRx.out.mono ?_
        rintro e w12 ⟨⟨t, he, hp⟩, hb⟩
        obtain rfl : s = t := Hp.out.uniq hp
        rw [Hu.out] at he
        subst he
        have HbT : Hid (Below w1.heap.size w1 w12) := Lib.hid (below_via HbS.out hb)
        have HMx := Lib.hid (dmay_c x w12 ((HG.out.below (below_via HB1.out HbT.out)).up (below_via HB1.out HbT.out).size) (HI1.out.after HbT.out) HO.out)
        clear hp hb HRx HbS
        have HbS := HbT
        clear HbT)
     | (go_at_call 16
        refine HMx.out.mono ?_
        rintro e w13 ⟨t, he, hp, hl, hb⟩
        obtain rfl : s = t := Hp.out.uniq hp
        rw [HD.out] at he
        subst he
        have HbT : Hid (Below w1.heap.size w1 w13) := Lib.hid (below_via HbS.out hb)
        have HRy := Lib.hid (rprint7_c x w13 (HI1.out.after HbT.out) HFw.out HO.out.d64)
        clear hp hl hb HMx HbS
        have HbS := HbT
        clear HbT)
     | (go_at_call 15
        refine HRy.out.mono ?_
        rintro e w14 ⟨⟨t, he, hp⟩, hb⟩
        obtain rfl : s = t := Hp.out.uniq hp
        rw [Hu.out] at he
        subst he
        have HbT : Hid (Below w1.heap.size w1 w14) := Lib.hid (below_via HbS.out hb)
        clear hp hb HRy HbS
        have HbS := HbT
        clear HbT))
  all_goals
   have HBf := Lib.hid (below_via HB1.out HbS.out)
   go_wp2
   go_ret
   exact ⟨rfl, HBf.out⟩
end Go.Proofs.YtjgpmnffagdhlaaGreatDoor
namespace Go.Proofs.YtjgpmnffagdhlaaGreatDoor
open Go Go.RowKit Go.ChangeShapes Go.WideShapes Go.ChangeAt Go.Joins Go.Deep
set_option maxRecDepth 100000
theorem own : ownKnob Tryz.prog.godebug = none := by kernel_rfl
theorem laidOut : laidOutB Tryz.prog = true := by kernel_rfl
section
variable {H : Type} {enc : TypeId × Value → H}
theorem trodAll_below {P : Program} (hl : laidOutB P = true) {W W' : World} (hb : Below W.heap.size W W') (ts : List TypeId) : ∀ (vs : List Value) (ds : List (DataW H)) (ps : List MemPlace), (ts.all fun t => P.readableRec t && decide (t < P.types.size)) = true →
 DataW.TrodAll enc P W 0 (fun _ => true) true ts vs ds ps → (∀ x ∈ ps, x.block < W.heap.size) → DataW.TrodAll enc P W' 0 (fun b => decide (b < W.heap.size)) true ts vs ds ps := by
 induction ts with
 | nil =>
   intro vs ds ps _ h _
   cases vs <;> cases ds <;> first | exact h | exact h.elim
 | cons t ts ih =>
   intro vs ds ps ht h hlt
   cases vs with
   | nil => cases ds <;> exact h.elim
   | cons v vs =>
     cases ds with
     | nil => exact h.elim
     | cons d ds =>
       obtain ⟨p, q, h1, h2, rfl⟩ := h
       simp only [List.all_cons, Bool.and_eq_true, decide_eq_true_eq] at ht
       exact ⟨p, q, Below.trod hl ht.1.1 ht.1.2 h1 hb (fun x hx => hlt x (List.mem_append_left _ hx)), ih vs ds q ht.2 h2 (fun x hx => hlt x (List.mem_append_right _ hx)), rfl⟩
theorem law_post {f : Func} {s : ChangeSpec} {W W' : World} {args : Array Value} {ds gs : List (DataW H)} {before : List MemPlace}
 (hW : DataW.Whole enc Tryz.prog f.params.toList s.vars false W args.toList ds gs before) (hb : Below W.heap.size W W') (hvars : s.vars = []) (hp : (f.params.toList.all fun t => Tryz.prog.readableRec t && decide (t < Tryz.prog.types.size)) = true)
 (hr : f.resultTypes = #[4]) (hs : s.fn H (ds ++ gs) = { results := [.lit (.bool true)], args := ds }) : s.post enc Tryz.prog f false true false false W args (.bool true) W' := by
 have hlt : ∀ p ∈ before, p.block < W.heap.size := fun p hp => hW.lt p hp
 have hW0 := hW
 obtain ⟨p, q, hA, hV, rfl, _, _⟩ := hW
 rw [hvars] at hV
 obtain ⟨rfl, rfl⟩ := trodVars_none hV
 refine ⟨ds, [], _, [], p, [], hW0, ?_, ?_, ?_, ?_, fun h => by cases h⟩
 · rw [hs, hr]
   exact trodAll_mk1 (shut_bool Tryz.underlying4 _)
 · rw [hs]
   exact trodAll_below laidOut hb _ _ _ _ hp hA (fun x hx => hlt x (List.mem_append_left _ hx))
 · rw [hs, hvars]; rfl
 · exact hb.frame _
end
end Go.Proofs.YtjgpmnffagdhlaaGreatDoor
namespace Go.Proofs.YtjgpmnffagdhlaaGreatDoor
open Go Go.RowKit Go.ChangeShapes Go.WideShapes Go.ChangeAt Go.Joins Go.Deep
set_option maxRecDepth 100000
section
variable {H : Type} {enc : TypeId × Value → H}
theorem slice_cells {α : Type} [Nonempty α] {W : World} {T E : TypeId} {S : Nat} (hT : Tryz.prog.underlying T = some (.slice E)) (hS : Tryz.prog.cellsOf E = S) (hS0 : 0 < S) (rd : α → List Value) (hrd : ∀ x, (rd x).length = S) (Q : α → Prop)
 (each : ∀ (cs' : List Value) (n : Nat) (z : DataW H × List MemPlace), DataW.trod enc Tryz.prog W 0 (fun _ => true) true n E cs' = some z → ∃ x : α, cs' = rd x ∧ Q x)
 {fuel : Nat} {cs : List Value} {z : DataW H × List MemPlace} (hf : DataW.trod enc Tryz.prog W 0 (fun _ => true) true fuel T cs = some z) :
 ∃ (A : Option Addr) (n c : Nat) (xs : List α), cs = [.slice A n c] ∧ xs.length = n ∧ n ≤ maxLen ∧ n ≤ c ∧ SlG W A S rd xs ∧ ∀ x ∈ xs, Q x := by
 rcases open_slice hT hf with ⟨hcs, _⟩ | ⟨a, len, cap, m, n, D, Pl, hcs, _, hl, hm, hmm, _, hi⟩
 · subst hcs
   exact ⟨none, 0, 0, [], rfl, rfl, Nat.zero_le _, Nat.zero_le _, .inl rfl, (fun x h => by cases h)⟩
 · subst hcs
   have hm' : m = cap := by rw [hmm]; rfl
   have each' : ∀ i, i < len → ∃ x : α, (∀ j u, (rd x)[j]? = some u → W.cell? (a.add (i * S + j)) = some u) ∧ Q x := by
    intro i hil
    obtain ⟨cs', hc, ht'⟩ := hi i (by omega)
    obtain ⟨x, rfl, hx⟩ := each cs' n _ ht'
    rw [hS] at hc
    obtain ⟨_, hcl, hat⟩ := World.cells?_some hc
    refine ⟨x, fun j u hju => ?_, hx⟩
    have hj : j < S := by
     have := (List.getElem?_eq_some_iff.1 hju).1
     rw [hrd] at this
     exact this
    have := hat j hj
    rw [← Go.Deep.add_add]
    rw [this]
    exact hju
   rcases Nat.eq_zero_or_pos len with h0 | h0
   · subst h0
     exact ⟨some a, 0, cap, [], rfl, rfl, Nat.zero_le _, Nat.zero_le _, .inl rfl, (fun x h => by cases h)⟩
   · have first : ∃ x u, (rd x)[0]? = some u ∧ W.cell? (a.add (0 * S + 0)) = some u := by
      obtain ⟨x, hc, _⟩ := each' 0 h0
      have : (rd x)[0]? = some ((rd x)[0]'(by rw [hrd]; exact hS0)) := List.getElem?_eq_getElem _
      exact ⟨x, _, this, hc 0 _ this⟩
     have hspot : a.spot = none := by
      obtain ⟨x, u, _, hc⟩ := first
      simpa [Addr.add] using World.cell?_spot hc
     have ha : a = ⟨a.block, a.off, none⟩ := by cases a; simp at hspot; rw [hspot]
     have hadd : ∀ j, a.add j = ⟨a.block, a.off + j, none⟩ := fun j => by
      rw [ha]; unfold Addr.add; split
      · rename_i e; subst e; rfl
      · rfl
     refine ⟨some a, len, cap, (List.range len).map fun i => if h : i < len then Classical.choose (each' i h) else Classical.choice inferInstance, rfl, by simp, by omega, hl, .inr ⟨a.block, a.off, by rw [← ha], ?_, ?_⟩, ?_⟩
     · obtain ⟨x, u, _, hc⟩ := first
       rw [hadd] at hc
       exact World.block_lt_of_cell? W ⟨a.block, a.off + (0 * S + 0), none⟩ hc
     · intro i x hx j u hju
       have hil : i < len := by
        have := (List.getElem?_eq_some_iff.1 hx).1
        simpa using this
       have hx' : Classical.choose (each' i hil) = x := by
        rw [List.getElem?_map, List.getElem?_range hil] at hx
        simpa [hil] using hx
       have hc := (Classical.choose_spec (each' i hil)).1
       rw [hx'] at hc
       have := hc j u hju
       rw [hadd, ← Nat.add_assoc] at this
       exact this
     · intro x hx
       obtain ⟨i, hi, rfl⟩ := List.mem_map.1 hx
       have hil : i < len := List.mem_range.1 hi
       rw [dif_pos hil]
       exact (Classical.choose_spec (each' i hil)).2
end
end Go.Proofs.YtjgpmnffagdhlaaGreatDoor
