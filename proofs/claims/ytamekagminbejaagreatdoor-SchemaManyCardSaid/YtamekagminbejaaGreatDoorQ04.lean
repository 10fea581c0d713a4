/-
  Part 4 of 8 of what the proof leans on: each part below says what it proves, and of what; no condition besides.
-/
import Derived.Test.YtamekagminbejaaGreatDoorQ03
import Derived.Deep.DeepCutAuto
import Derived.Lib.OthersKept
import Derived.Lib.UnsafeStr
import Derived.Lib.Builder
import Derived.Lib.Strings
import Derived.Laws.OwnMore
import Derived.Deep.RegionLaw
set_option linter.unusedVariables false
set_option linter.unusedSimpArgs false
namespace Go.Proofs.YtamekagminbejaaGreatDoor
open Go Go.RowKit
set_option maxRecDepth 100000
def ViewS (b : Nat) (w : World) (o : Option (Vw × List Tk)) (e : Ending) (w' : World) : Prop := match o with
 | none => e = .panicked (boom 70) ∧ Apb b w w'
 | some q => ∃ x : Vm, e = .returned x.w ∧ x.In w' ∧ x.Lo w.heap.size ∧ x.vw = q.1 ∧ Rq w' b q.2 ∧ Apb b w w'
structure VS (b V : Nat) (W w : World) (l : List Tk) (cs : Array Value) : Prop where
 rq : Rq w b l
 ap : Apb b W w
 bk : Bk w V cs 36
def VW (b V : Nat) (W w : World) (l : List Tk) (cs : Value → Array Value) (e : List Nd) : Prop := ∃ wv, VS b V W w l (cs wv) ∧ OwnG w (V + 1) 83 5 rdN wv e
def VP (b V Bp : Nat) (W w : World) (l : List Tk) (cs : Value → Value → Array Value) (e : List Nd) (pk : List Int) : Prop := ∃ wv pv, VS b V W w l (cs wv pv) ∧ OwnG w (V + 1) 83 5 rdN wv e ∧ (∀ k, wv.ownBlock = some k → k < Bp) ∧ OwnG w Bp 3 1 rdI pv pk ∧ V < Bp ∧ Bp ≤ w.heap.size
theorem ret_vw {fn : Func} {R : Ending → World → Prop} {F : Act} {w : World} {t : Tmp} {b : Nat} {x : Vm} (hres : fn.results = #[.cell t 36]) (ht : Reg.slot F t = .pointer (some ⟨b, 0, none⟩))
 (hb : Bk w b #[.string x.name, .string x.frm, .string x.wth, .int .i64 x.on0, .int .i64 x.on1, .slice x.whr.A x.whr.n x.whr.c, .slice x.pick.A x.pick.n x.pick.c, .bool x.grp, .slice x.aggs.A x.aggs.n x.aggs.c] 36) (hd : F.defers = [])
 (hR : R (.returned x.w) w) : bodyPost Tryz.prog fn R .ret F w := by
 have h0 : w.cell? ⟨b, 0, none⟩ = some (.string x.name) := hb.cell 0
 have h1 : w.cell? ⟨b, 1, none⟩ = some (.string x.frm) := hb.cell 1
 have h2 : w.cell? ⟨b, 2, none⟩ = some (.string x.wth) := hb.cell 2
 have h3 : w.cell? ⟨b, 3, none⟩ = some (.int .i64 x.on0) := hb.cell 3
 have h4 : w.cell? ⟨b, 4, none⟩ = some (.int .i64 x.on1) := hb.cell 4
 have h5 : w.cell? ⟨b, 5, none⟩ = some (.slice x.whr.A x.whr.n x.whr.c) := hb.cell 5
 have h6 : w.cell? ⟨b, 6, none⟩ = some (.slice x.pick.A x.pick.n x.pick.c) := hb.cell 6
 have h7 : w.cell? ⟨b, 7, none⟩ = some (.bool x.grp) := hb.cell 7
 have h8 : w.cell? ⟨b, 8, none⟩ = some (.slice x.aggs.A x.aggs.n x.aggs.c) := hb.cell 8
 refine bodyPost_ret (v := x.w) ?_ hd hR
 have ht' : F.tmps[t]?.getD undef = .pointer (some ⟨b, 0, none⟩) := by simpa [Reg.slot] using ht
 simp [results, hres, ht', go_sem, h0, h1, h2, h3, h4, h5, h6, h7, h8]
set_option maxHeartbeats 8000000 in
theorem view_cR (b : Nat) (l : List Tk) (w : World) (hR : Rq w b l) (hG : GL w) (hGb : GLt b) :
 Calls Tryz.prog 160 #[.pointer (some ⟨b, 0, none⟩)] w fun e w' => ViewS b w (viewP l) e w' := by
 have hbs := hR.lt
 obtain ⟨S, hS⟩ : ∃ S, ViewS b w (viewP l) = S := ⟨_, rfl⟩
 rw [hS]
 unfold viewP at hS
 have HS := Lib.hid hS
 have HG := Lib.hid hG
 have Hgb := Lib.hid hGb
 have hmf : ∀ (fn : Fn) (first cap : Array Value) (w : World), (Instr.makeFunc fn first cap).run Tryz.prog w = .ok (.func fn first cap) w := fun _ _ _ _ => rfl
 obtain ⟨W, hW⟩ : ∃ W, (w.alloc (.cells #[.pointer (some ⟨b, 0, none⟩)] 217)).alloc (.cells #[.string emp, .string emp, .string emp, .int .i64 0, .int .i64 0, .slice none 0 0, .slice none 0 0, .bool false, .slice none 0 0] 36) = W := ⟨_, rfl⟩
 have hz : W.heap.size = w.heap.size + 2 := by rw [← hW]; simp
 have HBx : Hid (Bk W w.heap.size #[.pointer (some ⟨b, 0, none⟩)] 217) := Lib.hid (by rw [← hW]; exact (Bk.new w _ _).after (below_one _ _) (by simp))
 have HBt : Hid (Bk W (w.heap.size + 1) #[.string emp, .string emp, .string emp, .int .i64 0, .int .i64 0, .slice none 0 0, .slice none 0 0, .bool false, .slice none 0 0] 36) := Lib.hid (by rw [← hW]; have := Bk.new (w.alloc (.cells #[.pointer (some ⟨b, 0, none⟩)] 217)) #[.string emp, .string emp, .string emp, .int .i64 0, .int .i64 0, .slice none 0 0, .slice none 0 0, .bool false, .slice none 0 0] 36; simpa using this)
 have HR0 : Hid (Rq W b l) := Lib.hid (by rw [← hW]; exact (hR.alloc _).alloc _)
 have HA0 : Hid (Apb b w W) := Lib.hid (by rw [← hW]; exact ((Apb.refl b w).alloc _).alloc _)
 have p0 : W.cell? ⟨w.heap.size, 0, none⟩ = some (.pointer (some ⟨b, 0, none⟩)) := HBx.out.cell 0
 have HW := Lib.hid hW
 clear hR hG hGb hS hW
 go_enter Tryz.func160, Tryz.ntmps160
 go_wp2_with fail
 rw [HW.out]
 refine (name_cR b l W HR0.out).mono ?_
 rintro e w1 hn
 cases hq : nameP l with
 | none =>
   rw [hq] at hn HS
   obtain ⟨rfl, hb⟩ := hn
   refine ⟨rfl, ?_⟩
   rw [← HS.out]
   exact ⟨rfl, HA0.out.trans hb⟩
 | some a =>
   rw [hq] at hn HS
   obtain ⟨rfl, hr, hb⟩ := hn
   obtain ⟨nm, l1⟩ := a
   simp only [Option.bind_some] at HS
   have hlen := hr.len
   have hzW : W.heap.size ≤ w1.heap.size := hb.size
   have Hr1 := Lib.hid hr
   have Hb1 := Lib.hid hb
   have HBx1 := Lib.hid (HBx.out.kept hb (by omega))
   have p1 : w1.cell? ⟨w.heap.size, 0, none⟩ = some (.pointer (some ⟨b, 0, none⟩)) := HBx1.out.cell 0
   have hx1 := HBx1.out.lt
   have HC1 := Lib.hid (Bk.new w1 #[.string nm, .string emp, .string emp, .int .i64 0, .int .i64 0, .slice none 0 0, .slice none 0 0, .bool false, .slice none 0 0] 36)
   obtain ⟨V, hV⟩ : ∃ V, w1.heap.size = V := ⟨_, rfl⟩
   have hzV : (w1.alloc (.cells #[.string nm, .string emp, .string emp, .int .i64 0, .int .i64 0, .slice none 0 0, .slice none 0 0, .bool false, .slice none 0 0] 36)).heap.size = V + 1 := by simp; exact hV
   have HzV := Lib.hid hzV
   have HVe := Lib.hid hV
   clear hq hr hb HR0 hzV p0 HW hV HBx1
   go_wp2_with fail
   have hV := HVe.out
   rw [hV]
   rw [hV] at HC1 hzW hx1
   refine (must1_c b (V + 1) l1 w_from (by decide) _ HzV.out (Hr1.out.alloc _)).mono ?_
   rintro e w2 hn
   clear hV
   cases hq : needP w_from l1 with
   | none =>
     rw [hq] at hn HS
     obtain ⟨rfl, hb⟩ := hn
     refine ⟨rfl, ?_⟩
     rw [← HS.out]
     exact ⟨rfl, (HA0.out.trans (Hb1.out.alloc _)).trans hb⟩
   | some l2 =>
     have hll := need_len hq
     rw [hq] at hn HS
     simp only [Option.bind_some] at HS
     obtain ⟨rfl, hr, hb⟩ := hn
     have hbV : b < V := by omega
     have HS2 : Hid (VS b V W w2 l2 #[.string nm, .string emp, .string emp, .int .i64 0, .int .i64 0, .slice none 0 0, .slice none 0 0, .bool false, .slice none 0 0]) := Lib.hid ⟨hr, (Hb1.out.alloc _).trans hb, HC1.out.kept hb (by omega)⟩
     have p2 : w2.cell? ⟨w.heap.size, 0, none⟩ = some (.pointer (some ⟨b, 0, none⟩)) := (HBx.out.kept HS2.out.ap (by omega)).cell 0
     clear hq hr hb p1 HzV HC1 Hr1 hll Hb1
     go_wp2_with fail
     refine (name_cR b l2 w2 HS2.out.rq).mono ?_
     rintro e w3 hn
     cases hq : nameP l2 with
     | none =>
       rw [hq] at hn HS
       obtain ⟨rfl, hb⟩ := hn
       refine ⟨rfl, ?_⟩
       rw [← HS.out]
       exact ⟨rfl, HA0.out.trans (HS2.out.ap.trans hb)⟩
     | some a =>
       obtain ⟨fr, l3⟩ := a
       rw [hq] at hn HS
       simp only [Option.bind_some] at HS
       obtain ⟨rfl, hr, hb⟩ := hn
       have HK3 := Lib.hid (HS2.out.bk.kept hb (by omega))
       have HA3 := Lib.hid (HS2.out.ap.trans hb)
       have Hr3 := Lib.hid hr
       have c1 : w3.cell? ⟨V, 1, none⟩ = some (.string emp) := HK3.out.cell 1
       have f1 := HK3.out.thaw 1
       have hV3 := HK3.out.lt
       have p3 : w3.cell? ⟨w.heap.size, 0, none⟩ = some (.pointer (some ⟨b, 0, none⟩)) := (HBx.out.kept HA3.out (by omega)).cell 0
       clear hq hr hb p2 HS2
       go_upto_if 15 with fail
       have hz3 : (w3.setCell ⟨V, 1, none⟩ (.string fr)).heap.size = w3.heap.size := by simp [World.setCell]
       refine (has1_c b w3.heap.size l3 w_join (by decide) _ hz3 (Hr3.out.own hbV 1 (.string fr))).mono ?_
       rintro e w4 ⟨rfl, hr, hb⟩
       have HS4 : Hid (VS b V W w4 (takeP w_join l3).2 #[.string nm, .string fr, .string emp, .int .i64 0, .int .i64 0, .slice none 0 0, .slice none 0 0, .bool false, .slice none 0 0]) := Lib.hid ⟨hr, (HA3.out.own hzW 1 _).trans hb, (HK3.out.set 1 (.string fr)).kept hb (by omega)⟩
       have p4 : w4.cell? ⟨w.heap.size, 0, none⟩ = some (.pointer (some ⟨b, 0, none⟩)) := (HBx.out.kept HS4.out.ap (by omega)).cell 0
       clear hr hb p3 c1 f1 hV3 HK3 HA3 Hr3 hz3
       go_upto_if 15 with fail
       go_cut [15] (fun _ wx => ∃ (wt : ByteArray) (o0 o1 : Int) (l4 : List Tk), Hid (joinP l3 = some ((wt, o0, o1), l4)) ∧ Hid (VS b V W wx l4 #[.string nm, .string fr, .string wt, .int .i64 o0, .int .i64 o1, .slice none 0 0, .slice none 0 0, .bool false, .slice none 0 0]))
       case first =>
        cases hq : (takeP w_join l3).1
        · have hj : joinP l3 = some ((emp, 0, 0), (takeP w_join l3).2) := by unfold joinP; rw [hq, take_no hq]; rfl
          have Hj := Lib.hid hj
          clear hq hj
          go_wp2_with fail
          go_meet
          exact ⟨emp, 0, 0, _, Hj, HS4⟩
        · obtain ⟨l5, hl5⟩ : ∃ l5, (takeP w_join l3).2 = l5 := ⟨_, rfl⟩
          have hj : joinP l3 = (nameP l5).bind fun a => (onP a.2).map fun y => ((a.1, y.1.1, y.1.2), y.2) := by
           unfold joinP onP
           rw [hq, hl5]
           simp only [if_true]
           cases nameP l5 with
           | none => rfl
           | some a =>
             simp only [Option.bind_some]
             cases needP w_on a.2 with
             | none => rfl
             | some r =>
               simp only [Option.bind_some]
               cases colP r with
               | none => rfl
               | some x =>
                 simp only [Option.bind_some]
                 cases needP s_eq x.2 with
                 | none => rfl
                 | some q =>
                   simp only [Option.bind_some]
                   cases colP q <;> rfl
          rw [hl5] at HS4
          have Hj := Lib.hid hj
          clear hq hj hl5
          go_wp2_with fail
          refine (name_cR b l5 w4 HS4.out.rq).mono ?_
          rintro e w5 hn
          cases hq : nameP l5 with
          | none =>
            rw [hq] at hn
            obtain ⟨rfl, hb⟩ := hn
            refine ⟨rfl, ?_⟩
            have h1 := HS.out
            rw [Hj.out, hq] at h1
            rw [← h1]
            exact ⟨rfl, HA0.out.trans (HS4.out.ap.trans hb)⟩
          | some a =>
            obtain ⟨wt, l6⟩ := a
            rw [hq] at hn
            obtain ⟨rfl, hr, hb⟩ := hn
            have hj : joinP l3 = (onP l6).map fun y => ((wt, y.1.1, y.1.2), y.2) := by rw [Hj.out, hq]; rfl
            have Hj2 := Lib.hid hj
            have HS5 : Hid (VS b V W w5 l6 #[.string nm, .string fr, .string emp, .int .i64 0, .int .i64 0, .slice none 0 0, .slice none 0 0, .bool false, .slice none 0 0]) := Lib.hid ⟨hr, HS4.out.ap.trans hb, HS4.out.bk.kept hb (by omega)⟩
            have p5 : w5.cell? ⟨w.heap.size, 0, none⟩ = some (.pointer (some ⟨b, 0, none⟩)) := (HBx.out.kept HS5.out.ap (by omega)).cell 0
            have c2 : w5.cell? ⟨V, 2, none⟩ = some (.string emp) := HS5.out.bk.cell 2
            have f2 := HS5.out.bk.thaw 2
            have hV5 := HS5.out.bk.lt
            clear hq hr hb hj Hj HS4 p4
            go_wp2_with fail
            refine (on_cR b l6 _ (HS5.out.rq.own hbV 2 (.string wt))).mono ?_
            rintro e w6 hn
            have hA6 := HS5.out.ap.own hzW 2 (.string wt)
            cases hq : onP l6 with
            | none =>
              rw [hq] at hn
              obtain ⟨rfl, hb⟩ := hn
              refine ⟨rfl, ?_⟩
              have h1 := HS.out
              rw [Hj2.out, hq] at h1
              rw [← h1]
              exact ⟨rfl, HA0.out.trans (hA6.trans hb)⟩
            | some y =>
              obtain ⟨⟨o0, o1⟩, l7⟩ := y
              rw [hq] at hn
              obtain ⟨rfl, hr, hb⟩ := hn
              have Hj3 : Hid (joinP l3 = some ((wt, o0, o1), l7)) := Lib.hid (by rw [Hj2.out, hq]; rfl)
              have HS6 : Hid (VS b V W w6 l7 #[.string nm, .string fr, .string wt, .int .i64 0, .int .i64 0, .slice none 0 0, .slice none 0 0, .bool false, .slice none 0 0]) := Lib.hid ⟨hr, hA6.trans hb, (HS5.out.bk.set 2 (.string wt)).kept hb (by omega)⟩
              have c3 : w6.cell? ⟨V, 3, none⟩ = some (.int .i64 0) := HS6.out.bk.cell 3
              have c4 : w6.cell? ⟨V, 4, none⟩ = some (.int .i64 0) := HS6.out.bk.cell 4
              have f3 := HS6.out.bk.thaw 3
              have f4 := HS6.out.bk.thaw 4
              have hV6 := HS6.out.bk.lt
              clear hq hr hb hA6 Hj2 HS5 p5 c2 f2 hV5
              go_wp2_with fail
              go_meet
              exact ⟨wt, o0, o1, l7, Hj3, Lib.hid ⟨(HS6.out.rq.own hbV 3 _).own hbV 4 _, (HS6.out.ap.own hzW 3 _).own hzW 4 _, (HS6.out.bk.set 3 (.int .i64 o0)).set 4 (.int .i64 o1)⟩⟩
       case rest =>
        obtain ⟨wt, o0, o1, l4, hj, hs⟩ := hcut
        rw [hj.out] at HS
        simp only [Option.bind_some] at HS
        clear hj HS4 p4
        have p5 : wc.cell? ⟨w.heap.size, 0, none⟩ = some (.pointer (some ⟨b, 0, none⟩)) := (HBx.out.kept hs.out.ap (by omega)).cell 0
        clear HVe
        go_upto_if 24 with fail
        refine (has1_c b wc.heap.size l4 w_where (by decide) wc rfl hs.out.rq).mono ?_
        rintro e w5 ⟨rfl, hr, hb⟩
        have HS5 : Hid (VS b V W w5 (takeP w_where l4).2 #[.string nm, .string fr, .string wt, .int .i64 o0, .int .i64 o1, .slice none 0 0, .slice none 0 0, .bool false, .slice none 0 0]) := Lib.hid ⟨hr, hs.out.ap.trans hb, hs.out.bk.kept hb (by omega)⟩
        have p6 : w5.cell? ⟨w.heap.size, 0, none⟩ = some (.pointer (some ⟨b, 0, none⟩)) := (HBx.out.kept HS5.out.ap (by omega)).cell 0
        clear hr hb p5 hs
        go_upto_if 24 with fail
        go_cut [24] (fun _ wx => ∃ (es : List Nd) (l5 : List Tk), Hid (whereP l4 = some (es, l5)) ∧ Hid (VW b V W wx l5 (fun wv => #[.string nm, .string fr, .string wt, .int .i64 o0, .int .i64 o1, wv, .slice none 0 0, .bool false, .slice none 0 0]) es))
        case first =>
         cases hq : (takeP w_where l4).1
         · have hj : whereP l4 = some ([], (takeP w_where l4).2) := by unfold whereP; rw [hq, take_no hq]; rfl
           have Hj := Lib.hid hj
           clear hq hj
           go_wp2_with fail
           go_meet
           exact ⟨[], _, Hj, Lib.hid ⟨_, HS5.out, OwnG.nil _ _ _⟩⟩
         · obtain ⟨l6, hl6⟩ : ∃ l6, (takeP w_where l4).2 = l6 := ⟨_, rfl⟩
           have hj : whereP l4 = exprP l6 := by unfold whereP; rw [hq, hl6]; rfl
           rw [hl6] at HS5
           have Hj := Lib.hid hj
           clear hq hj hl6
           go_wp2_with fail
           refine (expr_cR b l6 w5 HS5.out.rq (HG.out.below ((HA0.out.trans HS5.out.ap).below hbs) Hgb.out) Hgb.out).mono ?_
           rintro e w6 hn
           cases hq : exprP l6 with
           | none =>
             rw [hq] at hn
             obtain ⟨rfl, hb⟩ := hn
             refine ⟨rfl, ?_⟩
             have h1 := HS.out
             rw [Hj.out, hq] at h1
             rw [← h1]
             exact ⟨rfl, HA0.out.trans (HS5.out.ap.trans hb)⟩
           | some q =>
             obtain ⟨es, l7⟩ := q
             rw [hq] at hn
             obtain ⟨wv, rfl, ho, hr, hb⟩ := hn
             have Hj2 : Hid (whereP l4 = some (es, l7)) := Lib.hid (by rw [Hj.out, hq])
             have hlV : V < w5.heap.size := HS5.out.bk.lt
             have HO6 := Lib.hid (ho.mono (B' := V + 1) (by omega))
             have HS6 : Hid (VS b V W w6 l7 #[.string nm, .string fr, .string wt, .int .i64 o0, .int .i64 o1, .slice none 0 0, .slice none 0 0, .bool false, .slice none 0 0]) := Lib.hid ⟨hr, HS5.out.ap.trans hb, HS5.out.bk.kept hb (by omega)⟩
             have c5 : w6.cell? ⟨V, 5, none⟩ = some (.slice none 0 0) := HS6.out.bk.cell 5
             have f5 := HS6.out.bk.thaw 5
             have hV6 := HS6.out.bk.lt
             clear hq hr hb ho Hj HS5 p6
             obtain ⟨Aw, cw, hwv⟩ := HO6.out.isSlice
             subst hwv
             go_wp2_with fail
             go_meet
             exact ⟨es, l7, Hj2, Lib.hid ⟨_, ⟨HS6.out.rq.own hbV 5 _, HS6.out.ap.own hzW 5 _, HS6.out.bk.set 5 (.slice Aw es.length cw)⟩, HO6.out.same fun k hk => Below.heap_setCell _ _ _ _ (by have := (HO6.out.lt k hk).1; show k ≠ V; omega)⟩⟩
        case rest =>
         obtain ⟨es, l5, hj, hs⟩ := hcut
         rw [hj.out] at HS
         simp only [Option.bind_some] at HS
         obtain ⟨wv, hvs, how⟩ := hs.out
         obtain ⟨Aw, cw, hwv⟩ := how.isSlice
         subst hwv
         have HVS := Lib.hid hvs
         have HOW := Lib.hid how
         have p7 : wc.cell? ⟨w.heap.size, 0, none⟩ = some (.pointer (some ⟨b, 0, none⟩)) := (HBx.out.kept hvs.ap (by omega)).cell 0
         clear hj HS5 p6 hs hvs how
         go_upto_region 10 with fail
         refine (must1_c b wc.heap.size l5 w_pick (by decide) wc rfl HVS.out.rq).mono ?_
         rintro e w6 hn
         cases hq : needP w_pick l5 with
         | none =>
           rw [hq] at hn HS
           obtain ⟨rfl, hb⟩ := hn
           refine ⟨rfl, ?_⟩
           rw [← HS.out]
           exact ⟨rfl, HA0.out.trans (HVS.out.ap.trans hb)⟩
         | some l6 =>
           rw [hq] at hn HS
           simp only [Option.bind_some] at HS
           obtain ⟨rfl, hr, hb⟩ := hn
           have HS6 : Hid (VS b V W w6 l6 #[.string nm, .string fr, .string wt, .int .i64 o0, .int .i64 o1, .slice Aw es.length cw, .slice none 0 0, .bool false, .slice none 0 0]) := Lib.hid ⟨hr, HVS.out.ap.trans hb, HVS.out.bk.kept hb (by omega)⟩
           have HO6 := Lib.hid (HOW.out.kept hb (by omega))
           have p8 : w6.cell? ⟨w.heap.size, 0, none⟩ = some (.pointer (some ⟨b, 0, none⟩)) := (HBx.out.kept HS6.out.ap (by omega)).cell 0
           have hV6 : V < w6.heap.size := HS6.out.bk.lt
           have hx6 : w.heap.size < w6.heap.size := by omega
           clear hq hr hb p7 HVS HOW
           go_upto_region 10 with fail
           go_cut [39] (fun s wx => s = .bool (!(l6.isEmpty || (takeP w_group l6).1)) ∧ Hid (VS b V W wx l6 #[.string nm, .string fr, .string wt, .int .i64 o0, .int .i64 o1, .slice Aw es.length cw, .slice none 0 0, .bool false, .slice none 0 0]) ∧ Hid (OwnG wx (V + 1) 83 5 rdN (.slice Aw es.length cw) es))
           case first =>
            have HD := Lib.hid (done_c b l6 w6 HS6.out.rq)
            cases hq : l6.isEmpty
            · rw [hq] at HD
              have HX := Lib.hid (sees1_c b w6.heap.size l6 w_group (by decide) w6 rfl HS6.out.rq)
              obtain ⟨G, hG⟩ : ∃ G, (takeP w_group l6).1 = G := ⟨_, rfl⟩
              rw [hG] at HX
              have HGe := Lib.hid hG
              have Hq := Lib.hid hq
              clear hG hq
              go_wp2_with fail
              refine HD.out.mono ?_
              rintro e w7 ⟨rfl, rfl⟩
              go_wp2_with fail
              refine HX.out.mono ?_
              rintro e w8 ⟨rfl, rfl⟩
              go_wp2_with fail
              go_meet
              exact ⟨by rw [Hq.out, HGe.out]; cases G <;> rfl, Lib.hid ⟨HS6.out.rq.alloc _, HS6.out.ap.alloc _, HS6.out.bk.after (below_one _ _) hV6⟩, HO6.out.alloc _⟩
            · rw [hq] at HD
              have Hq := Lib.hid hq
              clear hq
              go_wp2_with fail
              refine HD.out.mono ?_
              rintro e w7 ⟨rfl, rfl⟩
              go_wp2_with fail
              go_meet
              exact ⟨by rw [Hq.out]; rfl, HS6, HO6⟩
           case rest =>
            obtain ⟨rfl, hs, ho⟩ := hcut
            have p9 : wc.cell? ⟨w.heap.size, 0, none⟩ = some (.pointer (some ⟨b, 0, none⟩)) := (HBx.out.kept hs.out.ap (by omega)).cell 0
            have hV9 : V < wc.heap.size := hs.out.bk.lt
            clear HS6 HO6 p8
            go_upto_if 39 with fail
            go_cut [39] (fun _ wx => ∃ (pk : List Int) (l7 : List Tk) (Bp : Nat), Hid (picksP l6 = some (pk, l7)) ∧ Hid (VP b V Bp W wx l7 (fun wv pv => #[.string nm, .string fr, .string wt, .int .i64 o0, .int .i64 o1, wv, pv, .bool false, .slice none 0 0]) es pk))
            case first =>
             cases hq : (l6.isEmpty || (takeP w_group l6).1)
             · have hj : picksP l6 = sepP colP l6 := by unfold picksP; rw [hq]; rfl
               have Hj := Lib.hid hj
               have HI : Hid (VIP b V w.heap.size wc.heap.size (csP nm fr wt o0 o1 (.slice Aw es.length cw)) W wc wc l6 []) := Lib.hid ⟨hs.out.rq, hs.out.ap, ⟨_, hs.out.bk, OwnG.nil _ _ _⟩, fun _ _ _ _ => rfl, HBx.out.kept hs.out.ap (by omega), by simpa using hs.out.rq.len, by omega, ⟨hzW, by omega⟩, by omega, hV9, Nat.le_refl _⟩
               clear hq hj
               go_wp2_with fail
               refine (list_cR colP (fun l a h => Nat.le_of_lt (col_len (a := a.1) (r := a.2) h)) (VIP b V w.heap.size wc.heap.size (csP nm fr wt o0 o1 (.slice Aw es.length cw)) W wc) (Apb b W) b 194 _ (fun _ _ _ h => h.rq) (fun _ _ _ _ _ h1 h2 h3 h4 => h1.keep h2 h3 h4) (fun u l acc h => pick1_c nm fr wt o0 o1 (.slice Aw es.length cw) b V w.heap.size wc.heap.size W wc u l acc h) (fun u => by kernel_rfl) l6 [] wc HI.out).mono ?_
               rintro e w7 hn
               cases hq : sepP colP l6 with
               | none =>
                 rw [hq] at hn
                 obtain ⟨rfl, hb⟩ := hn
                 refine ⟨rfl, ?_⟩
                 have h1 := HS.out
                 rw [Hj.out, hq] at h1
                 rw [← h1]
                 exact ⟨rfl, HA0.out.trans hb⟩
               | some q =>
                 obtain ⟨pk, l7⟩ := q
                 rw [hq] at hn
                 obtain ⟨rfl, hi⟩ := hn
                 rw [List.nil_append] at hi
                 have Hj2 : Hid (picksP l6 = some (pk, l7)) := Lib.hid (by rw [Hj.out, hq])
                 have Hi := Lib.hid hi
                 clear hq hi Hj HI
                 go_wp2_with fail
                 go_meet
                 obtain ⟨pv, hpb, hpo⟩ := Hi.out.sl
                 refine ⟨pk, l7, wc.heap.size, Hj2, Lib.hid ⟨_, pv, ⟨Hi.out.rq, Hi.out.ap, hpb⟩, ho.out.same fun k hk => ?_, fun k hk => (ho.out.lt k hk).2, hpo, hV9, Hi.out.sz⟩⟩
                 have := ho.out.lt k hk
                 exact Hi.out.kp k this.2 (by omega) (by omega)
             · have hj : picksP l6 = some ([], l6) := by unfold picksP; rw [hq]; rfl
               have Hj := Lib.hid hj
               clear hq hj
               go_wp2_with fail
               go_meet
               exact ⟨[], l6, wc.heap.size, Hj, Lib.hid ⟨_, _, hs.out, ho.out, fun k hk => (ho.out.lt k hk).2, OwnG.nil _ _ _, hV9, Nat.le_refl _⟩⟩
            case rest =>
             obtain ⟨pk, l7, Bp, hj, hvp⟩ := hcut
             rw [hj.out] at HS
             simp only [Option.bind_some] at HS
             clear hj p9 hs ho hV9
             obtain ⟨wv, pv, hvs, how, hwb, hpo, hVB, hBs⟩ := hvp.out
             obtain ⟨Aw2, cw2, hwv⟩ := how.isSlice
             obtain ⟨Ap, cp, hpv⟩ := hpo.isSlice
             subst hwv hpv
             have HVS := Lib.hid hvs
             have HOW := Lib.hid how
             have HPO := Lib.hid (hpo.mono (B' := V + 1) hVB)
             have p9 : wc.cell? ⟨w.heap.size, 0, none⟩ = some (.pointer (some ⟨b, 0, none⟩)) := (HBx.out.kept hvs.ap (by omega)).cell 0
             clear hvp hvs how hwb hpo hVB hBs
             go_upto_region 13 with fail
             refine (has1_c b wc.heap.size l7 w_group (by decide) wc rfl HVS.out.rq).mono ?_
             rintro e w7 ⟨rfl, hr, hb⟩
             have haE : aggsP l7 = if (takeP w_group l7).1 then (if (takeP w_group l7).2.isEmpty then some ((true, []), []) else (sepP aggP (takeP w_group l7).2).map fun a => ((true, a.1), a.2)) else some ((false, []), l7) := rfl
             have hno : (takeP w_group l7).1 = false → (takeP w_group l7).2 = l7 := fun h => take_no h
             obtain ⟨G, hG⟩ : ∃ G, (takeP w_group l7).1 = G := ⟨_, rfl⟩
             obtain ⟨l8, hl8⟩ : ∃ l8, (takeP w_group l7).2 = l8 := ⟨_, rfl⟩
             rw [hG, hl8] at haE
             rw [hG, hl8] at hno
             rw [hl8] at hr
             have Hno := Lib.hid hno
             have HaE := Lib.hid haE
             have HGe := Lib.hid hG
             have HS7 : Hid (VS b V W w7 l8 #[.string nm, .string fr, .string wt, .int .i64 o0, .int .i64 o1, .slice Aw2 es.length cw2, .slice Ap pk.length cp, .bool false, .slice none 0 0]) := Lib.hid ⟨hr, HVS.out.ap.trans hb, HVS.out.bk.kept hb (by omega)⟩
             have HW7 := Lib.hid (HOW.out.kept hb (by omega))
             have HP7 := Lib.hid (HPO.out.kept hb (by omega))
             have p10 : w7.cell? ⟨w.heap.size, 0, none⟩ = some (.pointer (some ⟨b, 0, none⟩)) := (HBx.out.kept HS7.out.ap (by omega)).cell 0
             have c7 : w7.cell? ⟨V, 7, none⟩ = some (.bool false) := HS7.out.bk.cell 7
             have f7 := HS7.out.bk.thaw 7
             have hV7 := HS7.out.bk.lt
             have hx7 : w.heap.size < w7.heap.size := by omega
             rw [hG]
             clear haE hno hG hl8 hr hb HVS HOW HPO p9
             go_upto_region 13 with fail
             have HS8 : Hid (VS b V W (w7.setCell ⟨V, 7, none⟩ (.bool G)) l8 #[.string nm, .string fr, .string wt, .int .i64 o0, .int .i64 o1, .slice Aw2 es.length cw2, .slice Ap pk.length cp, .bool G, .slice none 0 0]) := Lib.hid ⟨HS7.out.rq.own hbV 7 _, HS7.out.ap.own hzW 7 _, HS7.out.bk.set 7 (.bool G)⟩
             have HW8 : Hid (OwnG (w7.setCell ⟨V, 7, none⟩ (.bool G)) (V + 1) 83 5 rdN (.slice Aw2 es.length cw2) es) := Lib.hid (HW7.out.same fun k hk => Below.heap_setCell _ _ _ _ (by have := (HW7.out.lt k hk).1; show k ≠ V; omega))
             have HP8 : Hid (OwnG (w7.setCell ⟨V, 7, none⟩ (.bool G)) (V + 1) 3 1 rdI (.slice Ap pk.length cp) pk) := Lib.hid (HP7.out.same fun k hk => Below.heap_setCell _ _ _ _ (by have := (HP7.out.lt k hk).1; show k ≠ V; omega))
             clear HS7 HW7 HP7
             go_cut [53] (fun s wx => ∃ D : Bool, s = .bool D ∧ Hid (D = (G && !l8.isEmpty)) ∧ Hid (VS b V W wx l8 #[.string nm, .string fr, .string wt, .int .i64 o0, .int .i64 o1, .slice Aw2 es.length cw2, .slice Ap pk.length cp, .bool G, .slice none 0 0]) ∧ Hid (OwnG wx (V + 1) 83 5 rdN (.slice Aw2 es.length cw2) es) ∧ Hid (OwnG wx (V + 1) 3 1 rdI (.slice Ap pk.length cp) pk))
             case first =>
              have HD := Lib.hid (done_c b l8 _ HS8.out.rq)
              cases G
              · go_wp2_with fail
                go_meet
                exact ⟨_, rfl, Lib.hid (by rfl), HS8, HW8, HP8⟩
              · go_wp2_with fail
                refine HD.out.mono ?_
                rintro e w8 ⟨rfl, rfl⟩
                go_wp2_with fail
                go_meet
                exact ⟨_, rfl, Lib.hid (by simp), HS8, HW8, HP8⟩
             case rest =>
              obtain ⟨D, rfl, hD, hs, how, hpo⟩ := hcut
              have p11 : wc.cell? ⟨w.heap.size, 0, none⟩ = some (.pointer (some ⟨b, 0, none⟩)) := (HBx.out.kept hs.out.ap (by omega)).cell 0
              have hV11 : V < wc.heap.size := hs.out.bk.lt
              clear HS8 HW8 HP8 p10 c7 f7 hV7 hx7
              go_upto_if 53 with fail
              go_cut [53] (fun _ wx => ∃ (ag : List Ag) (l9 : List Tk) (wv pv av : Value), Hid (aggsP l7 = some ((G, ag), l9)) ∧ Hid (VS b V W wx l9 #[.string nm, .string fr, .string wt, .int .i64 o0, .int .i64 o1, wv, pv, .bool G, av]) ∧ Hid (OwnG wx (V + 1) 83 5 rdN wv es) ∧ Hid (OwnG wx (V + 1) 3 1 rdI pv pk) ∧ Hid (OwnG wx (V + 1) 73 2 rdAg av ag))
              case first =>
               cases D
               · have Hj : Hid (aggsP l7 = some ((G, []), l8)) := Lib.hid (by
                  rw [HaE.out]
                  have h1 := hD.out
                  cases G with
                  | false => rw [Hno.out rfl]; rfl
                  | true =>
                    cases l8 with
                    | nil => rfl
                    | cons t r => cases h1)
                 go_wp2_with fail
                 go_meet
                 exact ⟨[], l8, _, _, _, Hj, hs, how, hpo, OwnG.nil _ _ _⟩
               · have hG1 : G = true := by
                  have h1 := hD.out
                  cases G with
                  | false => cases h1
                  | true => rfl
                 have hq : l8.isEmpty = false := by
                  have h1 := hD.out
                  rw [hG1] at h1
                  cases l8 with
                  | nil => cases h1
                  | cons t r => rfl
                 subst hG1
                 · have Hj : Hid (aggsP l7 = (sepP aggP l8).map fun a => ((true, a.1), a.2)) := Lib.hid (by rw [HaE.out, hq]; rfl)
                   have HI : Hid (VIA b V w.heap.size wc.heap.size (csA nm fr wt o0 o1 (.slice Aw2 es.length cw2) (.slice Ap pk.length cp)) W wc wc l8 []) := Lib.hid ⟨hs.out.rq, hs.out.ap, ⟨_, hs.out.bk, OwnG.nil _ _ _⟩, fun _ _ _ _ => rfl, HBx.out.kept hs.out.ap (by omega), by simpa using hs.out.rq.len, by omega, ⟨hzW, by omega⟩, by omega, hV11, Nat.le_refl _⟩
                   clear hq
                   go_wp2_with fail
                   refine (list_cR aggP (fun l a h => Nat.le_of_lt (agg_len h)) (VIA b V w.heap.size wc.heap.size (csA nm fr wt o0 o1 (.slice Aw2 es.length cw2) (.slice Ap pk.length cp)) W wc) (Apb b W) b 196 _ (fun _ _ _ h => h.rq) (fun _ _ _ _ _ h1 h2 h3 h4 => h1.keep h2 h3 h4) (fun u l acc h => agg1_c nm fr wt o0 o1 (.slice Aw2 es.length cw2) (.slice Ap pk.length cp) b V w.heap.size wc.heap.size W wc u l acc h) (fun u => by kernel_rfl) l8 [] wc HI.out).mono ?_
                   rintro e w8 hn
                   cases hq : sepP aggP l8 with
                   | none =>
                     rw [hq] at hn
                     obtain ⟨rfl, hb⟩ := hn
                     refine ⟨rfl, ?_⟩
                     have h1 := HS.out
                     rw [Hj.out, hq] at h1
                     rw [← h1]
                     exact ⟨rfl, HA0.out.trans hb⟩
                   | some q =>
                     obtain ⟨ag, l9⟩ := q
                     rw [hq] at hn
                     obtain ⟨rfl, hi⟩ := hn
                     rw [List.nil_append] at hi
                     have Hj2 : Hid (aggsP l7 = some ((true, ag), l9)) := Lib.hid (by rw [Hj.out, hq]; rfl)
                     have Hi := Lib.hid hi
                     clear hq hi Hj HI
                     go_wp2_with fail
                     go_meet
                     obtain ⟨av, hpb, hao⟩ := Hi.out.sl
                     refine ⟨ag, l9, _, _, av, Hj2, Lib.hid ⟨Hi.out.rq, Hi.out.ap, hpb⟩, how.out.same fun k hk => ?_, hpo.out.same fun k hk => ?_, hao.mono (by omega)⟩
                     · have := how.out.lt k hk
                       exact Hi.out.kp k this.2 (by omega) (by omega)
                     · have := hpo.out.lt k hk
                       exact Hi.out.kp k this.2 (by omega) (by omega)
              case rest =>
               obtain ⟨ag, l9, wv, pv, av, hj, hvs, how2, hpo2, hao⟩ := hcut
               rw [hj.out] at HS
               simp only [Option.bind_some] at HS
               clear hj p11 hs how hpo hV11
               obtain ⟨Aw3, cw3, hwv, hinw, hbw⟩ := how2.out.sx nOk.len
               obtain ⟨Ap3, cp3, hpv, hinp, hbp⟩ := hpo2.out.sx iOk.len
               obtain ⟨Aa3, ca3, hav, hina, hba⟩ := hao.out.sx aOk7.len
               subst hwv hpv hav
               have HT := Lib.hid (HBt.out.kept hvs.out.ap (by omega))
               have v0 : wc.cell? ⟨V, 0, none⟩ = some (.string nm) := hvs.out.bk.cell 0
               have v1 : wc.cell? ⟨V, 1, none⟩ = some (.string fr) := hvs.out.bk.cell 1
               have v2 : wc.cell? ⟨V, 2, none⟩ = some (.string wt) := hvs.out.bk.cell 2
               have v3 : wc.cell? ⟨V, 3, none⟩ = some (.int .i64 o0) := hvs.out.bk.cell 3
               have v4 : wc.cell? ⟨V, 4, none⟩ = some (.int .i64 o1) := hvs.out.bk.cell 4
               have v5 : wc.cell? ⟨V, 5, none⟩ = some (.slice Aw3 es.length cw3) := hvs.out.bk.cell 5
               have v6 : wc.cell? ⟨V, 6, none⟩ = some (.slice Ap3 pk.length cp3) := hvs.out.bk.cell 6
               have v7 : wc.cell? ⟨V, 7, none⟩ = some (.bool G) := hvs.out.bk.cell 7
               have v8 : wc.cell? ⟨V, 8, none⟩ = some (.slice Aa3 ag.length ca3) := hvs.out.bk.cell 8
               have t0 : wc.cell? ⟨w.heap.size + 1, 0, none⟩ = some (.string emp) := HT.out.cell 0
               have t1 : wc.cell? ⟨w.heap.size + 1, 1, none⟩ = some (.string emp) := HT.out.cell 1
               have t2 : wc.cell? ⟨w.heap.size + 1, 2, none⟩ = some (.string emp) := HT.out.cell 2
               have t3 : wc.cell? ⟨w.heap.size + 1, 3, none⟩ = some (.int .i64 0) := HT.out.cell 3
               have t4 : wc.cell? ⟨w.heap.size + 1, 4, none⟩ = some (.int .i64 0) := HT.out.cell 4
               have t5 : wc.cell? ⟨w.heap.size + 1, 5, none⟩ = some (.slice none 0 0) := HT.out.cell 5
               have t6 : wc.cell? ⟨w.heap.size + 1, 6, none⟩ = some (.slice none 0 0) := HT.out.cell 6
               have t7 : wc.cell? ⟨w.heap.size + 1, 7, none⟩ = some (.bool false) := HT.out.cell 7
               have t8 : wc.cell? ⟨w.heap.size + 1, 8, none⟩ = some (.slice none 0 0) := HT.out.cell 8
               have z0 := HT.out.thaw 0
               have z1 := HT.out.thaw 1
               have z2 := HT.out.thaw 2
               have z3 := HT.out.thaw 3
               have z4 := HT.out.thaw 4
               have z5 := HT.out.thaw 5
               have z6 := HT.out.thaw 6
               have z7 := HT.out.thaw 7
               have z8 := HT.out.thaw 8
               have hV9 := hvs.out.bk.lt
               have hT9 := HT.out.lt
               have Hinw := Lib.hid hinw
               have Hinp := Lib.hid hinp
               have Hina := Lib.hid hina
               have Hbw := Lib.hid hbw
               have Hbp := Lib.hid hbp
               have Hba := Lib.hid hba
               have hne : ¬ w.heap.size + 1 = V := by omega
               clear hinw hinp hina hbw hbp hba how2 hpo2 hao
               by_cases h40 : pk.length ≤ 40
               · have d1 : decide ((pk.length : Int) ≤ 40) = true := by simp; omega
                 by_cases k40 : ag.length ≤ 40
                 · have d2 : decide ((ag.length : Int) ≤ 40) = true := by simp; omega
                   rw [if_pos ⟨h40, k40⟩] at HS
                   go_wp2_with fail
                   refine (req_yes _).mono ?_
                   rintro e w9 ⟨rfl, rfl⟩
                   clear d1 d2
                   go_wp2
                   refine ret_vw (b := w.heap.size + 1) (x := ⟨nm, fr, wt, o0, o1, ⟨Aw3, es.length, cw3, es⟩, ⟨Ap3, pk.length, cp3, pk⟩, G, ⟨Aa3, ag.length, ca3, ag⟩⟩) Tryz.results160 rfl (HT.out.put [.string nm, .string fr, .string wt, .int .i64 o0, .int .i64 o1, .slice Aw3 es.length cw3, .slice Ap3 pk.length cp3, .bool G, .slice Aa3 ag.length ca3] rfl) rfl ?_
                   rw [← HS.out]
                   have hput : ∀ k, k ≠ w.heap.size + 1 → (putL w9 (w.heap.size + 1) 0 [.string nm, .string fr, .string wt, .int .i64 o0, .int .i64 o1, .slice Aw3 es.length cw3, .slice Ap3 pk.length cp3, .bool G, .slice Aa3 ag.length ca3]).heap[k]? = w9.heap[k]? := fun k hk => putL_heap _ _ _ _ _ hk
                   have hsp : w9.heap.size ≤ (putL w9 (w.heap.size + 1) 0 [.string nm, .string fr, .string wt, .int .i64 o0, .int .i64 o1, .slice Aw3 es.length cw3, .slice Ap3 pk.length cp3, .bool G, .slice Aa3 ag.length ca3]).heap.size := by rw [putL_size]; exact Nat.le_refl _
                   refine ⟨⟨nm, fr, wt, o0, o1, ⟨Aw3, es.length, cw3, es⟩, ⟨Ap3, pk.length, cp3, pk⟩, G, ⟨Aa3, ag.length, ca3, ag⟩⟩, rfl, ⟨?_, ?_, ?_⟩, ⟨fun k hk => by have := (Hbw.out k hk).1; omega, fun k hk => by have := (Hbp.out k hk).1; omega, fun k hk => by have := (Hba.out k hk).1; omega⟩, rfl, hvs.out.rq.put (c := w.heap.size + 1) (by omega) 0 [.string nm, .string fr, .string wt, .int .i64 o0, .int .i64 o1, .slice Aw3 es.length cw3, .slice Ap3 pk.length cp3, .bool G, .slice Aa3 ag.length ca3], (HA0.out.trans hvs.out.ap).put (c := w.heap.size + 1) (by omega) 0 [.string nm, .string fr, .string wt, .int .i64 o0, .int .i64 o1, .slice Aw3 es.length cw3, .slice Ap3 pk.length cp3, .bool G, .slice Aa3 ag.length ca3]⟩
                   · exact Hinw.out.same hsp fun k hk => hput k (by have := (Hbw.out k hk).1; omega)
                   · exact Hinp.out.same hsp fun k hk => hput k (by have := (Hbp.out k hk).1; omega)
                   · exact Hina.out.same hsp fun k hk => hput k (by have := (Hba.out k hk).1; omega)
                 · have d2 : decide ((ag.length : Int) ≤ 40) = false := by simp; omega
                   rw [if_neg (fun h => k40 h.2)] at HS
                   go_wp2_with fail
                   refine (req_no _).mono ?_
                   rintro e w9 ⟨rfl, rfl⟩
                   refine ⟨rfl, ?_⟩
                   rw [← HS.out]
                   exact ⟨rfl, HA0.out.trans hvs.out.ap⟩
               · have d1 : decide ((pk.length : Int) ≤ 40) = false := by simp; omega
                 rw [if_neg (fun h => h40 h.1)] at HS
                 go_wp2_with fail
                 refine (req_no _).mono ?_
                 rintro e w9 ⟨rfl, rfl⟩
                 refine ⟨rfl, ?_⟩
                 rw [← HS.out]
                 exact ⟨rfl, HA0.out.trans hvs.out.ap⟩
abbrev sx0 {α : Type} : Sx α := ⟨none, 0, 0, []⟩
def tm0 : Tm := ⟨emp, sx0, sx0⟩
def vm0 : Vm := ⟨emp, emp, emp, 0, 0, sx0, sx0, false, sx0⟩
def dm0 : Dm := ⟨0, tm0, vm0⟩
theorem Sx.In.zero {α : Type} (w : World) (S : Nat) (rd : α → List Value) : (sx0 : Sx α).In w S rd := ⟨rfl, Nat.zero_le _, .inl rfl⟩
theorem tm0_in (w : World) : tm0.In w := ⟨Sx.In.zero _ _ _, Sx.In.zero _ _ _, fun e he => by cases he⟩
theorem vm0_in (w : World) : vm0.In w := ⟨Sx.In.zero _ _ _, Sx.In.zero _ _ _, Sx.In.zero _ _ _⟩
theorem Tm.In.same {w w' : World} {x : Tm} {B : Nat} (h : x.In w) (hl : x.Lo B) (hs : w.heap.size ≤ w'.heap.size) (hb : ∀ k, B ≤ k → w'.heap[k]? = w.heap[k]?) : x.In w' := ⟨h.cols.same hs fun k hk => hb k (hl.cols k hk), h.chks.same hs fun k hk => hb k (hl.chks k hk), fun e he => (h.each e he).same hs fun k hk => hb k (hl.each e he k hk)⟩
theorem Vm.In.same {w w' : World} {x : Vm} {B : Nat} (h : x.In w) (hl : x.Lo B) (hs : w.heap.size ≤ w'.heap.size) (hb : ∀ k, B ≤ k → w'.heap[k]? = w.heap[k]?) : x.In w' := ⟨h.whr.same hs fun k hk => hb k (hl.whr k hk), h.pick.same hs fun k hk => hb k (hl.pick k hk), h.aggs.same hs fun k hk => hb k (hl.aggs k hk)⟩
structure Dm.Lo (B : Nat) (x : Dm) : Prop where
 t : x.t.Lo B
 v : x.v.Lo B
theorem Tm.Lo.mono {B C : Nat} {x : Tm} (h : x.Lo B) (hc : C ≤ B) : x.Lo C := ⟨fun k hk => Nat.le_trans hc (h.cols k hk), fun k hk => Nat.le_trans hc (h.chks k hk), fun e he k hk => Nat.le_trans hc (h.each e he k hk)⟩
theorem Vm.Lo.mono {B C : Nat} {x : Vm} (h : x.Lo B) (hc : C ≤ B) : x.Lo C := ⟨fun k hk => Nat.le_trans hc (h.whr k hk), fun k hk => Nat.le_trans hc (h.pick k hk), fun k hk => Nat.le_trans hc (h.aggs k hk)⟩
theorem Dm.Lo.mono {B C : Nat} {x : Dm} (h : x.Lo B) (hc : C ≤ B) : x.Lo C := ⟨h.t.mono hc, h.v.mono hc⟩
theorem tm0_lo (B : Nat) : tm0.Lo B := ⟨nofun, nofun, nofun⟩
theorem vm0_lo (B : Nat) : vm0.Lo B := ⟨nofun, nofun, nofun⟩
theorem Dm.In.same {w w' : World} {x : Dm} {B : Nat} (h : x.In w) (hl : x.Lo B) (hs : w.heap.size ≤ w'.heap.size) (hb : ∀ k, B ≤ k → w'.heap[k]? = w.heap[k]?) : x.In w' := ⟨h.t.same hl.t hs hb, h.v.same hl.v hs hb⟩
abbrev Dm.cl (x : Dm) : List Value := [.int .i64 x.k, .string x.t.name, .slice x.t.cols.A x.t.cols.n x.t.cols.c, .slice x.t.chks.A x.t.chks.n x.t.chks.c, .string x.v.name, .string x.v.frm, .string x.v.wth, .int .i64 x.v.on0, .int .i64 x.v.on1, .slice x.v.whr.A x.v.whr.n x.v.whr.c, .slice x.v.pick.A x.v.pick.n x.v.pick.c, .bool x.v.grp, .slice x.v.aggs.A x.v.aggs.n x.v.aggs.c]
def BkD (w : World) (b : Nat) (x : Dm) : Prop := Bk w b x.cl.toArray 38
theorem BkD.all {w : World} {b : Nat} {x : Dm} (h : BkD w b x) : w.cell? ⟨b, 0, none⟩ = some (.int .i64 x.k) ∧ w.cell? ⟨b, 1, none⟩ = some (.string x.t.name) ∧ w.cell? ⟨b, 2, none⟩ = some (.slice x.t.cols.A x.t.cols.n x.t.cols.c) ∧ w.cell? ⟨b, 3, none⟩ = some (.slice x.t.chks.A x.t.chks.n x.t.chks.c) ∧
 w.cell? ⟨b, 4, none⟩ = some (.string x.v.name) ∧ w.cell? ⟨b, 5, none⟩ = some (.string x.v.frm) ∧ w.cell? ⟨b, 6, none⟩ = some (.string x.v.wth) ∧ w.cell? ⟨b, 7, none⟩ = some (.int .i64 x.v.on0) ∧ w.cell? ⟨b, 8, none⟩ = some (.int .i64 x.v.on1) ∧ w.cell? ⟨b, 9, none⟩ = some (.slice x.v.whr.A x.v.whr.n x.v.whr.c) ∧
 w.cell? ⟨b, 10, none⟩ = some (.slice x.v.pick.A x.v.pick.n x.v.pick.c) ∧ w.cell? ⟨b, 11, none⟩ = some (.bool x.v.grp) ∧ w.cell? ⟨b, 12, none⟩ = some (.slice x.v.aggs.A x.v.aggs.n x.v.aggs.c) ∧ b < w.heap.size :=
 ⟨Bk.cell h 0, Bk.cell h 1, Bk.cell h 2, Bk.cell h 3, Bk.cell h 4, Bk.cell h 5, Bk.cell h 6, Bk.cell h 7, Bk.cell h 8, Bk.cell h 9, Bk.cell h 10, Bk.cell h 11, Bk.cell h 12, Bk.lt h⟩
theorem BkD.thaw {w : World} {b : Nat} {x : Dm} (h : BkD w b x) : w.frozen? ⟨b, 0, none⟩ = false ∧ w.frozen? ⟨b, 1, none⟩ = false ∧ w.frozen? ⟨b, 2, none⟩ = false ∧ w.frozen? ⟨b, 3, none⟩ = false ∧ w.frozen? ⟨b, 4, none⟩ = false ∧ w.frozen? ⟨b, 5, none⟩ = false ∧ w.frozen? ⟨b, 6, none⟩ = false ∧ w.frozen? ⟨b, 7, none⟩ = false ∧ w.frozen? ⟨b, 8, none⟩ = false ∧ w.frozen? ⟨b, 9, none⟩ = false ∧ w.frozen? ⟨b, 10, none⟩ = false ∧ w.frozen? ⟨b, 11, none⟩ = false ∧ w.frozen? ⟨b, 12, none⟩ = false :=
 ⟨Bk.thaw h 0, Bk.thaw h 1, Bk.thaw h 2, Bk.thaw h 3, Bk.thaw h 4, Bk.thaw h 5, Bk.thaw h 6, Bk.thaw h 7, Bk.thaw h 8, Bk.thaw h 9, Bk.thaw h 10, Bk.thaw h 11, Bk.thaw h 12⟩
theorem ret_df {fn : Func} {R : Ending → World → Prop} {F : Act} {w : World} {t : Tmp} {b : Nat} {x : Dm} (hres : fn.results = #[.cell t 38]) (ht : Reg.slot F t = .pointer (some ⟨b, 0, none⟩)) (hb : BkD w b x) (hd : F.defers = [])
 (hR : R (.returned x.w) w) : bodyPost Tryz.prog fn R .ret F w := by
 obtain ⟨h0, h1, h2, h3, h4, h5, h6, h7, h8, h9, h10, h11, h12, _⟩ := hb.all
 refine bodyPost_ret (v := x.w) ?_ hd hR
 have ht' : F.tmps[t]?.getD undef = .pointer (some ⟨b, 0, none⟩) := by simpa [Reg.slot] using ht
 simp [results, hres, ht', go_sem, h0, h1, h2, h3, h4, h5, h6, h7, h8, h9, h10, h11, h12]
theorem Bk.ne {w : World} {b c : Nat} {cs : Array Value} {T : TypeId} (h : Bk w b cs T) (hne : b ≠ c) (j : Nat) (v : Value) : Bk (w.setCell ⟨c, j, none⟩ v) b cs T := (Below.heap_setCell _ _ _ _ (show b ≠ c from hne)).trans h
def DefS (b : Nat) (w : World) (o : Option Df) (e : Ending) (w' : World) : Prop := match o with
 | none => e = .panicked (boom 70) ∧ Apb b w w'
 | some d => ∃ x : Dm, e = .returned x.w ∧ x.In w' ∧ x.Lo w.heap.size ∧ x.df = d ∧ Apb b w w'
set_option maxHeartbeats 8000000 in
theorem definition_cR (b : Nat) (l : List Tk) (w : World) (hR : Rq w b l) (hG : GL w) (hGb : GLt b) :
 Calls Tryz.prog 137 #[.pointer (some ⟨b, 0, none⟩)] w fun e w' => DefS b w (parseD l) e w' := by
 have hbs := hR.lt
 obtain ⟨S, hS⟩ : ∃ S, DefS b w (parseD l) = S := ⟨_, rfl⟩
 rw [hS]
 unfold parseD at hS
 have HS := Lib.hid hS
 have HG := Lib.hid hG
 have Hgb := Lib.hid hGb
 have hN : (w.alloc (.cells dm0.cl.toArray 38)).heap.size = w.heap.size + 1 := by simp
 have HM := Lib.hid (choiceN_c b (w.heap.size + 1) l [w_table, w_view] (by decide) (by decide) (by decide) _ hN (hR.alloc (.cells dm0.cl.toArray 38)))
 have HB0 : Hid (BkD (w.alloc (.cells dm0.cl.toArray 38)) w.heap.size dm0) := Lib.hid (Bk.new w _ _)
 clear hR hG hGb hS hN
 go_enter Tryz.func137, Tryz.ntmps137
 go_wp2_with fail
 refine HM.out.mono ?_
 rintro e w1 hn
 cases hq : oneP [w_table, w_view] l with
 | none =>
   rw [hq] at hn HS
   obtain ⟨rfl, hb⟩ := hn
   refine ⟨rfl, ?_⟩
   rw [← HS.out]
   exact ⟨rfl, hb.of_alloc⟩
 | some k =>
   obtain ⟨k, r⟩ := k
   have hk := one_bd hq
   have hk2 : k < 2 := by have := hk.2; simpa using this
   rw [hq] at hn HS
   simp only [Option.bind_some] at HS
   obtain ⟨rfl, hr, hb⟩ := hn
   have HB1 : Hid (BkD w1 w.heap.size dm0) := Lib.hid (Bk.kept HB0.out hb (by omega))
   have Hb1 := Lib.hid hb.of_alloc
   have Hr1 := Lib.hid hr
   have hlt : w.heap.size < w1.heap.size := HB1.out.lt
   have HG1 := Lib.hid (HG.out.below (hb.of_alloc.below hbs) Hgb.out)
   have hk0 : 0 ≤ k := hk.1
   clear hq hr hb HM HB0 hk
   have HC1 : Hid (BkD (w1.alloc (.cells (⟨k, tm0, vm0⟩ : Dm).cl.toArray 38)) w1.heap.size ⟨k, tm0, vm0⟩) := Lib.hid (Bk.new w1 _ _)
   have HBc : Hid (BkD (w1.alloc (.cells (⟨k, tm0, vm0⟩ : Dm).cl.toArray 38)) w.heap.size dm0) := Lib.hid (Bk.after HB1.out (below_one _ _) hlt)
   by_cases h0 : k = 0
   · subst h0
     simp only [if_true] at HS
     go_wp2_with fail
     refine (table_cR b r _ (Hr1.out.alloc (.cells (⟨0, tm0, vm0⟩ : Dm).cl.toArray 38)) (HG1.out.after (below_one _ _)) Hgb.out).mono ?_
     rintro e w2 hn
     cases hq : tableP r with
     | none =>
       rw [hq] at hn HS
       obtain ⟨rfl, hb⟩ := hn
       refine ⟨rfl, ?_⟩
       rw [← HS.out]
       exact ⟨rfl, (Hb1.out.alloc _).trans hb⟩
     | some q =>
       obtain ⟨tb, r2⟩ := q
       rw [hq] at hn HS
       simp only [Option.bind_some] at HS
       obtain ⟨x, rfl, hxi, hxl, hxe, hr, hb⟩ := hn
       have HC2 : Hid (BkD w2 w1.heap.size ⟨0, tm0, vm0⟩) := Lib.hid (Bk.kept HC1.out hb (by omega))
       have HB2 : Hid (BkD w2 w.heap.size dm0) := Lib.hid (Bk.kept HBc.out hb (by omega))
       have Hb2 := Lib.hid ((Hb1.out.alloc (.cells (⟨0, tm0, vm0⟩ : Dm).cl.toArray 38)).trans hb)
       have Hr2 := Lib.hid hr
       have Hxi := Lib.hid hxi
       have hxl' : x.Lo (w1.heap.size + 1) := by
        have e : (w1.alloc (.cells (⟨0, tm0, vm0⟩ : Dm).cl.toArray 38)).heap.size = w1.heap.size + 1 := by simp
        rw [e] at hxl; exact hxl
       have Hxl := Lib.hid hxl'
       have Hxe := Lib.hid hxe
       obtain ⟨c0, c1, c2, c3, c4, c5, c6, c7, c8, c9, c10, c11, c12, hlC⟩ := HC2.out.all
       obtain ⟨f0, f1, f2, f3, _⟩ := HC2.out.thaw
       clear hq hr hb hxi hxl hxl' hxe HC1 HBc Hr1 Hb1 HB1
       go_wp2_with fail
       have Hr3 : Hid (Rq (((w2.setCell ⟨w1.heap.size, 1, none⟩ (.string x.name)).setCell ⟨w1.heap.size, 2, none⟩ (.slice x.cols.A x.cols.n x.cols.c)).setCell ⟨w1.heap.size, 3, none⟩ (.slice x.chks.A x.chks.n x.chks.c)) b r2) := Lib.hid ((((Hr2.out).own (by omega) 1 _).own (by omega) 2 _).own (by omega) 3 _)
       have Hb3 : Hid (Apb b w (((w2.setCell ⟨w1.heap.size, 1, none⟩ (.string x.name)).setCell ⟨w1.heap.size, 2, none⟩ (.slice x.cols.A x.cols.n x.cols.c)).setCell ⟨w1.heap.size, 3, none⟩ (.slice x.chks.A x.chks.n x.chks.c))) := Lib.hid ((((Hb2.out).own (by omega) 1 _).own (by omega) 2 _).own (by omega) 3 _)
       have HC3 : Hid (BkD (((w2.setCell ⟨w1.heap.size, 1, none⟩ (.string x.name)).setCell ⟨w1.heap.size, 2, none⟩ (.slice x.cols.A x.cols.n x.cols.c)).setCell ⟨w1.heap.size, 3, none⟩ (.slice x.chks.A x.chks.n x.chks.c)) w1.heap.size ⟨0, x, vm0⟩) := Lib.hid (Bk.set (Bk.set (Bk.set (HC2.out) 1 (.string x.name)) 2 (.slice x.cols.A x.cols.n x.cols.c)) 3 (.slice x.chks.A x.chks.n x.chks.c))
       have HB3 : Hid (BkD (((w2.setCell ⟨w1.heap.size, 1, none⟩ (.string x.name)).setCell ⟨w1.heap.size, 2, none⟩ (.slice x.cols.A x.cols.n x.cols.c)).setCell ⟨w1.heap.size, 3, none⟩ (.slice x.chks.A x.chks.n x.chks.c)) w.heap.size dm0) := Lib.hid (Bk.ne (Bk.ne (Bk.ne (HB2.out) (by omega) 1 _) (by omega) 2 _) (by omega) 3 _)
       have HI3 : Hid (x.In (((w2.setCell ⟨w1.heap.size, 1, none⟩ (.string x.name)).setCell ⟨w1.heap.size, 2, none⟩ (.slice x.cols.A x.cols.n x.cols.c)).setCell ⟨w1.heap.size, 3, none⟩ (.slice x.chks.A x.chks.n x.chks.c))) := Lib.hid (Hxi.out.same Hxl.out (by simp [World.setCell]) fun k hk => by rw [Below.heap_setCell _ _ _ _ (show k ≠ w1.heap.size by omega), Below.heap_setCell _ _ _ _ (show k ≠ w1.heap.size by omega), Below.heap_setCell _ _ _ _ (show k ≠ w1.heap.size by omega)])
       clear c0 c1 c2 c3 c4 c5 c6 c7 c8 c9 c10 c11 c12 hlC HC2 HB2 Hb2 Hr2 Hxi
       refine (done_c b r2 _ Hr3.out).mono ?_
       rintro e w3 ⟨rfl, rfl⟩
       cases hq : r2.isEmpty
       · rw [hq] at HS
         simp only [Bool.false_eq_true, if_false] at HS
         clear hq
         go_wp2_with fail
         refine (req_no _).mono ?_
         rintro e w4 ⟨rfl, rfl⟩
         refine ⟨rfl, ?_⟩
         rw [← HS.out]
         exact ⟨rfl, Hb3.out⟩
       · rw [hq] at HS
         simp only [if_true] at HS
         clear hq
         obtain ⟨w3, hw3⟩ : ∃ w3, ((w2.setCell ⟨w1.heap.size, 1, none⟩ (.string x.name)).setCell ⟨w1.heap.size, 2, none⟩ (.slice x.cols.A x.cols.n x.cols.c)).setCell ⟨w1.heap.size, 3, none⟩ (.slice x.chks.A x.chks.n x.chks.c) = w3 := ⟨_, rfl⟩
         rw [hw3] at HC3 HB3 Hr3 Hb3 HI3 ⊢
         obtain ⟨y, hy⟩ : ∃ y : Dm, y = ⟨0, x, vm0⟩ := ⟨_, rfl⟩
         rw [← hy] at HC3
         have Hy := Lib.hid hy
         have hlC3 := HC3.out.lt
         clear hy
         obtain ⟨c0, c1, c2, c3, c4, c5, c6, c7, c8, c9, c10, c11, c12, hlC⟩ := HC3.out.all
         obtain ⟨d0, d1, d2, d3, d4, d5, d6, d7, d8, d9, d10, d11, d12, hlB⟩ := HB3.out.all
         obtain ⟨z0, z1, z2, z3, z4, z5, z6, z7, z8, z9, z10, z11, z12⟩ := HB3.out.thaw
         clear hw3
         go_wp2_with fail
         refine (req_yes _).mono ?_
         rintro e w4 ⟨rfl, rfl⟩
         go_wp2
         refine ret_df (b := w.heap.size) (x := y) Tryz.results137 rfl (Bk.put HB3.out y.cl rfl) rfl ?_
         rw [← HS.out]
         have hIn : ∀ P : World, w4.heap.size ≤ P.heap.size → (∀ k, w1.heap.size + 1 ≤ k → P.heap[k]? = w4.heap[k]?) → y.In P := fun P h1 h2 => by
          rw [Hy.out]
          exact ⟨HI3.out.same Hxl.out h1 h2, vm0_in _⟩
         have hdf : y.df = ⟨0, tb, vw0⟩ := by
          rw [Hy.out]
          show (⟨0, x.tb, vm0.vw⟩ : Df) = _
          rw [Hxe.out]; rfl
         have hP1 : (putL w4 w.heap.size 0 y.cl).heap.size = w4.heap.size := putL_size _ _ _ _
         have hP2 : ∀ k, w1.heap.size + 1 ≤ k → (putL w4 w.heap.size 0 y.cl).heap[k]? = w4.heap[k]? := fun k hk => putL_heap y.cl w4 w.heap.size 0 k (by omega)
         have hIn2 := hIn _ (Nat.le_of_eq hP1.symm) hP2
         have hLo : y.Lo w.heap.size := by rw [Hy.out]; exact ⟨Hxl.out.mono (by omega), vm0_lo _⟩
         exact ⟨y, rfl, hIn2, hLo, hdf, Hb3.out.put (c := w.heap.size) (Nat.le_refl _) 0 y.cl⟩
   · have hk1 : k = 1 := by omega
     subst hk1
     rw [if_neg h0] at HS
     clear h0
     go_wp2_with fail
     refine (view_cR b r _ (Hr1.out.alloc (.cells (⟨1, tm0, vm0⟩ : Dm).cl.toArray 38)) (HG1.out.after (below_one _ _)) Hgb.out).mono ?_
     rintro e w2 hn
     cases hq : viewP r with
     | none =>
       rw [hq] at hn HS
       obtain ⟨rfl, hb⟩ := hn
       refine ⟨rfl, ?_⟩
       rw [← HS.out]
       exact ⟨rfl, (Hb1.out.alloc _).trans hb⟩
     | some q =>
       obtain ⟨vw, r2⟩ := q
       rw [hq] at hn HS
       simp only [Option.bind_some] at HS
       obtain ⟨x, rfl, hxi, hxl, hxe, hr, hb⟩ := hn
       have HC2 : Hid (BkD w2 w1.heap.size ⟨1, tm0, vm0⟩) := Lib.hid (Bk.kept HC1.out hb (by omega))
       have HB2 : Hid (BkD w2 w.heap.size dm0) := Lib.hid (Bk.kept HBc.out hb (by omega))
       have Hb2 := Lib.hid ((Hb1.out.alloc (.cells (⟨1, tm0, vm0⟩ : Dm).cl.toArray 38)).trans hb)
       have Hr2 := Lib.hid hr
       have Hxi := Lib.hid hxi
       have hxl' : x.Lo (w1.heap.size + 1) := by
        have e : (w1.alloc (.cells (⟨1, tm0, vm0⟩ : Dm).cl.toArray 38)).heap.size = w1.heap.size + 1 := by simp
        rw [e] at hxl; exact hxl
       have Hxl := Lib.hid hxl'
       have Hxe := Lib.hid hxe
       obtain ⟨c0, c1, c2, c3, c4, c5, c6, c7, c8, c9, c10, c11, c12, hlC⟩ := HC2.out.all
       obtain ⟨f0, f1, f2, f3, f4, f5, f6, f7, f8, f9, f10, f11, f12⟩ := HC2.out.thaw
       clear hq hr hb hxi hxl hxl' hxe HC1 HBc Hr1 Hb1 HB1
       go_wp2_with fail
       have hW3 : (((((((((w2).setCell ⟨w1.heap.size, 4, none⟩ (.string x.name)).setCell ⟨w1.heap.size, 5, none⟩ (.string x.frm)).setCell ⟨w1.heap.size, 6, none⟩ (.string x.wth)).setCell ⟨w1.heap.size, 7, none⟩ (.int .i64 x.on0)).setCell ⟨w1.heap.size, 8, none⟩ (.int .i64 x.on1)).setCell ⟨w1.heap.size, 9, none⟩ (.slice x.whr.A x.whr.n x.whr.c)).setCell ⟨w1.heap.size, 10, none⟩ (.slice x.pick.A x.pick.n x.pick.c)).setCell ⟨w1.heap.size, 11, none⟩ (.bool x.grp)).setCell ⟨w1.heap.size, 12, none⟩ (.slice x.aggs.A x.aggs.n x.aggs.c) = putL w2 w1.heap.size 4 [.string x.name, .string x.frm, .string x.wth, .int .i64 x.on0, .int .i64 x.on1, .slice x.whr.A x.whr.n x.whr.c, .slice x.pick.A x.pick.n x.pick.c, .bool x.grp, .slice x.aggs.A x.aggs.n x.aggs.c] := rfl
       have Hr3 : Hid (Rq ((((((((((w2).setCell ⟨w1.heap.size, 4, none⟩ (.string x.name)).setCell ⟨w1.heap.size, 5, none⟩ (.string x.frm)).setCell ⟨w1.heap.size, 6, none⟩ (.string x.wth)).setCell ⟨w1.heap.size, 7, none⟩ (.int .i64 x.on0)).setCell ⟨w1.heap.size, 8, none⟩ (.int .i64 x.on1)).setCell ⟨w1.heap.size, 9, none⟩ (.slice x.whr.A x.whr.n x.whr.c)).setCell ⟨w1.heap.size, 10, none⟩ (.slice x.pick.A x.pick.n x.pick.c)).setCell ⟨w1.heap.size, 11, none⟩ (.bool x.grp)).setCell ⟨w1.heap.size, 12, none⟩ (.slice x.aggs.A x.aggs.n x.aggs.c)) b r2) := Lib.hid (by rw [hW3]; exact Hr2.out.put (by omega) 4 _)
       have Hb3 : Hid (Apb b w ((((((((((w2).setCell ⟨w1.heap.size, 4, none⟩ (.string x.name)).setCell ⟨w1.heap.size, 5, none⟩ (.string x.frm)).setCell ⟨w1.heap.size, 6, none⟩ (.string x.wth)).setCell ⟨w1.heap.size, 7, none⟩ (.int .i64 x.on0)).setCell ⟨w1.heap.size, 8, none⟩ (.int .i64 x.on1)).setCell ⟨w1.heap.size, 9, none⟩ (.slice x.whr.A x.whr.n x.whr.c)).setCell ⟨w1.heap.size, 10, none⟩ (.slice x.pick.A x.pick.n x.pick.c)).setCell ⟨w1.heap.size, 11, none⟩ (.bool x.grp)).setCell ⟨w1.heap.size, 12, none⟩ (.slice x.aggs.A x.aggs.n x.aggs.c))) := Lib.hid (by rw [hW3]; exact Hb2.out.put (by omega) 4 _)
       have HC3 : Hid (BkD ((((((((((w2).setCell ⟨w1.heap.size, 4, none⟩ (.string x.name)).setCell ⟨w1.heap.size, 5, none⟩ (.string x.frm)).setCell ⟨w1.heap.size, 6, none⟩ (.string x.wth)).setCell ⟨w1.heap.size, 7, none⟩ (.int .i64 x.on0)).setCell ⟨w1.heap.size, 8, none⟩ (.int .i64 x.on1)).setCell ⟨w1.heap.size, 9, none⟩ (.slice x.whr.A x.whr.n x.whr.c)).setCell ⟨w1.heap.size, 10, none⟩ (.slice x.pick.A x.pick.n x.pick.c)).setCell ⟨w1.heap.size, 11, none⟩ (.bool x.grp)).setCell ⟨w1.heap.size, 12, none⟩ (.slice x.aggs.A x.aggs.n x.aggs.c)) w1.heap.size ⟨1, tm0, x⟩) := Lib.hid (by rw [hW3]; exact Bk.putF [.string x.name, .string x.frm, .string x.wth, .int .i64 x.on0, .int .i64 x.on1, .slice x.whr.A x.whr.n x.whr.c, .slice x.pick.A x.pick.n x.pick.c, .bool x.grp, .slice x.aggs.A x.aggs.n x.aggs.c] w2 w1.heap.size 4 _ HC2.out rfl)
       have HB3 : Hid (BkD ((((((((((w2).setCell ⟨w1.heap.size, 4, none⟩ (.string x.name)).setCell ⟨w1.heap.size, 5, none⟩ (.string x.frm)).setCell ⟨w1.heap.size, 6, none⟩ (.string x.wth)).setCell ⟨w1.heap.size, 7, none⟩ (.int .i64 x.on0)).setCell ⟨w1.heap.size, 8, none⟩ (.int .i64 x.on1)).setCell ⟨w1.heap.size, 9, none⟩ (.slice x.whr.A x.whr.n x.whr.c)).setCell ⟨w1.heap.size, 10, none⟩ (.slice x.pick.A x.pick.n x.pick.c)).setCell ⟨w1.heap.size, 11, none⟩ (.bool x.grp)).setCell ⟨w1.heap.size, 12, none⟩ (.slice x.aggs.A x.aggs.n x.aggs.c)) w.heap.size dm0) := Lib.hid (by rw [hW3]; exact (putL_heap _ _ _ _ _ (by omega)).trans HB2.out)
       have HI3 : Hid (x.In ((((((((((w2).setCell ⟨w1.heap.size, 4, none⟩ (.string x.name)).setCell ⟨w1.heap.size, 5, none⟩ (.string x.frm)).setCell ⟨w1.heap.size, 6, none⟩ (.string x.wth)).setCell ⟨w1.heap.size, 7, none⟩ (.int .i64 x.on0)).setCell ⟨w1.heap.size, 8, none⟩ (.int .i64 x.on1)).setCell ⟨w1.heap.size, 9, none⟩ (.slice x.whr.A x.whr.n x.whr.c)).setCell ⟨w1.heap.size, 10, none⟩ (.slice x.pick.A x.pick.n x.pick.c)).setCell ⟨w1.heap.size, 11, none⟩ (.bool x.grp)).setCell ⟨w1.heap.size, 12, none⟩ (.slice x.aggs.A x.aggs.n x.aggs.c))) := Lib.hid (by rw [hW3]; exact Hxi.out.same Hxl.out (Nat.le_of_eq (putL_size _ _ _ _).symm) fun k hk => putL_heap _ _ _ _ _ (by omega))
       clear hW3
       clear c0 c1 c2 c3 c4 c5 c6 c7 c8 c9 c10 c11 c12 hlC HC2 HB2 Hb2 Hr2 Hxi
       refine (done_c b r2 _ Hr3.out).mono ?_
       rintro e w3 ⟨rfl, rfl⟩
       cases hq : r2.isEmpty
       · rw [hq] at HS
         simp only [Bool.false_eq_true, if_false] at HS
         clear hq
         go_wp2_with fail
         refine (req_no _).mono ?_
         rintro e w4 ⟨rfl, rfl⟩
         refine ⟨rfl, ?_⟩
         rw [← HS.out]
         exact ⟨rfl, Hb3.out⟩
       · rw [hq] at HS
         simp only [if_true] at HS
         clear hq
         obtain ⟨w3, hw3⟩ : ∃ w3, (((((((((w2).setCell ⟨w1.heap.size, 4, none⟩ (.string x.name)).setCell ⟨w1.heap.size, 5, none⟩ (.string x.frm)).setCell ⟨w1.heap.size, 6, none⟩ (.string x.wth)).setCell ⟨w1.heap.size, 7, none⟩ (.int .i64 x.on0)).setCell ⟨w1.heap.size, 8, none⟩ (.int .i64 x.on1)).setCell ⟨w1.heap.size, 9, none⟩ (.slice x.whr.A x.whr.n x.whr.c)).setCell ⟨w1.heap.size, 10, none⟩ (.slice x.pick.A x.pick.n x.pick.c)).setCell ⟨w1.heap.size, 11, none⟩ (.bool x.grp)).setCell ⟨w1.heap.size, 12, none⟩ (.slice x.aggs.A x.aggs.n x.aggs.c) = w3 := ⟨_, rfl⟩
         rw [hw3] at HC3 HB3 Hr3 Hb3 HI3 ⊢
         obtain ⟨y, hy⟩ : ∃ y : Dm, y = ⟨1, tm0, x⟩ := ⟨_, rfl⟩
         rw [← hy] at HC3
         have Hy := Lib.hid hy
         have hlC3 := HC3.out.lt
         clear hy
         obtain ⟨c0, c1, c2, c3, c4, c5, c6, c7, c8, c9, c10, c11, c12, hlC⟩ := HC3.out.all
         obtain ⟨d0, d1, d2, d3, d4, d5, d6, d7, d8, d9, d10, d11, d12, hlB⟩ := HB3.out.all
         obtain ⟨z0, z1, z2, z3, z4, z5, z6, z7, z8, z9, z10, z11, z12⟩ := HB3.out.thaw
         clear hw3
         go_wp2_with fail
         refine (req_yes _).mono ?_
         rintro e w4 ⟨rfl, rfl⟩
         go_wp2
         refine ret_df (b := w.heap.size) (x := y) Tryz.results137 rfl (Bk.put HB3.out y.cl rfl) rfl ?_
         rw [← HS.out]
         have hIn : ∀ P : World, w4.heap.size ≤ P.heap.size → (∀ k, w1.heap.size + 1 ≤ k → P.heap[k]? = w4.heap[k]?) → y.In P := fun P h1 h2 => by
          rw [Hy.out]
          exact ⟨tm0_in _, HI3.out.same Hxl.out h1 h2⟩
         have hdf : y.df = ⟨1, tb0, vw⟩ := by
          rw [Hy.out]
          show (⟨1, tm0.tb, x.vw⟩ : Df) = _
          rw [Hxe.out]; rfl
         have hP1 : (putL w4 w.heap.size 0 y.cl).heap.size = w4.heap.size := putL_size _ _ _ _
         have hP2 : ∀ k, w1.heap.size + 1 ≤ k → (putL w4 w.heap.size 0 y.cl).heap[k]? = w4.heap[k]? := fun k hk => putL_heap y.cl w4 w.heap.size 0 k (by omega)
         have hIn2 := hIn _ (Nat.le_of_eq hP1.symm) hP2
         have hLo : y.Lo w.heap.size := by rw [Hy.out]; exact ⟨tm0_lo _, Hxl.out.mono (by omega)⟩
         exact ⟨y, rfl, hIn2, hLo, hdf, Hb3.out.put (c := w.heap.size) (Nat.le_refl _) 0 y.cl⟩
theorem tok_lm {l : List UInt8} {ts : List Tk} (h : lexL l = some ts) : ∀ t ∈ ts, mayT t = true := fun t ht => (lex_may _ l ts (Nat.le_refl _) h t ht).1
theorem lexO_lexL {l : List UInt8} {ts : List Tk} (h : lexO l = some ts) : lexL l = some ts := by
 unfold lexO at h
 split at h
 · exact h
 · cases h
def ParseS (l : List UInt8) (w : World) (e : Ending) (w' : World) : Prop := match lexO l with
 | none => e = .panicked (boom 60) ∧ Below w.heap.size w w'
 | some ts => match parseD ts with
   | none => e = .panicked (boom 70) ∧ Below w.heap.size w w'
   | some d => ∃ x : Dm, e = .returned x.w ∧ x.In w' ∧ x.Lo w.heap.size ∧ x.df = d ∧ Below w.heap.size w w'
set_option maxHeartbeats 4000000 in
theorem parse_c (l : List UInt8) (w : World) (hl : l.length ≤ maxLen) (hG : GL w) :
 Calls Tryz.prog 116 #[.string (ba l)] w fun e w' => ParseS l w e w' := by
 have HL := Lib.hid (lex_c l (w.alloc (.cells dm0.cl.toArray 38)) hl (hG.after (below_one _ _)))
 have HB0 : Hid (BkD (w.alloc (.cells dm0.cl.toArray 38)) w.heap.size dm0) := Lib.hid (Bk.new w _ _)
 have HG := Lib.hid hG
 obtain ⟨S, hS⟩ : ∃ S, ParseS l w = S := ⟨_, rfl⟩
 rw [hS]
 have HS := Lib.hid hS
 clear hG hS hl
 go_enter Tryz.func116, Tryz.ntmps116
 go_wp2_with fail
 refine HL.out.mono ?_
 rintro e w1 ⟨v, n, rfl, hls, hb⟩
 have hbw : Below w.heap.size w w1 := (below_one w _).trans (hb.mono (by simp))
 have Hbw := Lib.hid hbw
 have HB1 : Hid (BkD w1 w.heap.size dm0) := Lib.hid (Bk.after HB0.out hb (by simp))
 have hlt : w.heap.size < w1.heap.size := HB1.out.lt
 cases hq : lexO l with
 | none =>
   rw [hq] at hls
   have hp : S (.panicked (boom 60)) w1 := by
    rw [← HS.out]
    unfold ParseS
    rw [hq]
    exact ⟨rfl, hbw⟩
   have HP := Lib.hid hp
   obtain ⟨rfl, rfl⟩ := hls
   clear hq hp hb hbw HS HL HB0
   go_wp2
   exact ⟨rfl, HP.out⟩
 | some ts =>
   rw [hq] at hls
   obtain ⟨rfl, ho, hln⟩ := hls
   have hmay := tok_lm (lexO_lexL hq)
   obtain ⟨A, c, hv, hnc, hcm, hsl⟩ := ho.sl tOk.len
   subst hv
   have hSe : S = fun e w' => match parseD ts with
    | none => e = .panicked (boom 70) ∧ Below w.heap.size w w'
    | some d => ∃ x : Dm, e = .returned x.w ∧ x.In w' ∧ x.Lo w.heap.size ∧ x.df = d ∧ Below w.heap.size w w' := by
    rw [← HS.out]
    funext e w'
    unfold ParseS
    rw [hq]
   have HSe := Lib.hid hSe
   have hz2 : (w1.alloc (stO 11)).heap.size = w1.heap.size + 1 := by simp
   have hR : Rq ((w1.alloc (stO 11)).alloc (.cells #[.slice A ts.length c, .map (some w1.heap.size)] 197)) (w1.heap.size + 1) ts := by
    have hbk := Bk.new (w1.alloc (stO 11)) #[.slice A ts.length c, .map (some w1.heap.size)] 197
    rw [hz2] at hbk
    refine ⟨A, ts.length, c, w1.heap.size, hbk, rfl, hnc, hcm, ?_, by omega, ?_, hln, hmay⟩
    · rcases hsl with h | ⟨b0, off, hA, hlt0, h⟩
      · exact .inl h
      · refine .inr ⟨b0, off, hA, by omega, fun i x hx j u hu => ?_⟩
        rw [← h i x hx j u hu]
        have e1 := Below.heap_alloc (w1.alloc (stO 11)) (.cells #[.slice A ts.length c, .map (some w1.heap.size)] 197) b0 (by simp; omega)
        have e2 := Below.heap_alloc w1 (stO 11) b0 hlt0
        simp only [World.cell?, e1, e2]
    · refine (Below.heap_alloc (w1.alloc (stO 11)) (.cells #[.slice A ts.length c, .map (some w1.heap.size)] 197) w1.heap.size (by simp)).trans ?_
      show (w1.heap.push _)[w1.heap.size]? = _
      simp
   have hbt : Below w1.heap.size w1 ((w1.alloc (stO 11)).alloc (.cells #[.slice A ts.length c, .map (some w1.heap.size)] 197)) := (below_one w1 _).trans ((below_one (w1.alloc (stO 11)) _).mono (by simp))
   have HR := Lib.hid hR
   have HG2 := Lib.hid ((HG.out.after hbw).after hbt)
   have Hgt := Lib.hid (HG.out.lt.le (m := w1.heap.size + 1) (by omega))
   have HB2 : Hid (BkD ((w1.alloc (stO 11)).alloc (.cells #[.slice A ts.length c, .map (some w1.heap.size)] 197)) w.heap.size dm0) := Lib.hid (Bk.after HB1.out hbt hlt)
   have Hbt := Lib.hid hbt
   clear hq hb hbw hR hmay ho hsl hSe hz2 hbt HS HL HB0
   go_wp2_with fail
   refine (steps_c w1).mono ?_
   rintro e w2 ⟨rfl, rfl⟩
   go_wp2_with fail
   refine (definition_cR (w1.heap.size + 1) ts _ HR.out HG2.out Hgt.out).mono ?_
   rintro e w3 hn
   have hcv : ∀ {v : World}, Apb (w1.heap.size + 1) ((w1.alloc (stO 11)).alloc (.cells #[.slice A ts.length c, .map (some w1.heap.size)] 197)) v → Below w.heap.size w v := fun {v} h => by
    have h1 := Hbw.out.trans (Hbt.out.mono (by omega))
    exact ⟨h.os.trans h1.os, h.tape.trans h1.tape, h.output.trans h1.output, Nat.le_trans h1.size h.size, fun k hk => (h.other k (by simp; omega) (by omega)).trans (h1.block k hk)⟩
   cases hq : parseD ts with
   | none =>
     rw [hq] at hn
     obtain ⟨rfl, hb⟩ := hn
     refine ⟨rfl, ?_⟩
     rw [HSe.out]
     simp only [hq]
     exact ⟨trivial, hcv hb⟩
   | some d =>
     rw [hq] at hn
     obtain ⟨x, rfl, hxi, hxl, hxe, hb⟩ := hn
     have hS2 : S = fun e w' => ∃ x : Dm, e = .returned x.w ∧ x.In w' ∧ x.Lo w.heap.size ∧ x.df = d ∧ Below w.heap.size w w' := by rw [HSe.out, hq]
     have HS2 := Lib.hid hS2
     have HB3 : Hid (BkD w3 w.heap.size dm0) := Lib.hid (Bk.kept HB2.out hb (by omega))
     have hb3 := hcv hb
     have Hb3 := Lib.hid hb3
     have Hxi := Lib.hid hxi
     have hxl2 : x.Lo (w.heap.size + 1) := hxl.mono (by simp; omega)
     have Hxl := Lib.hid hxl2
     have Hxe := Lib.hid hxe
     obtain ⟨d0, d1, d2, d3, d4, d5, d6, d7, d8, d9, d10, d11, d12, hlB⟩ := HB3.out.all
     obtain ⟨z0, z1, z2, z3, z4, z5, z6, z7, z8, z9, z10, z11, z12⟩ := HB3.out.thaw
     clear hq hb hb3 hxi hxl hxl2 hxe hS2 hcv HSe
     go_wp2
     refine ret_df (b := w.heap.size) (x := x) Tryz.results116 rfl (Bk.put HB3.out x.cl rfl) rfl ?_
     rw [HS2.out]
     have hP1 : (putL w3 w.heap.size 0 x.cl).heap.size = w3.heap.size := putL_size _ _ _ _
     have hIn := Hxi.out.same Hxl.out (Nat.le_of_eq hP1.symm) (fun k hk => putL_heap x.cl w3 w.heap.size 0 k (by omega))
     have hio := putL_io x.cl w3 w.heap.size 0
     have hBel : Below w.heap.size w (putL w3 w.heap.size 0 x.cl) := ⟨hio.1.trans Hb3.out.os, hio.2.1.trans Hb3.out.tape, hio.2.2.trans Hb3.out.output, by rw [hP1]; exact Hb3.out.size, fun k hk => (putL_heap x.cl w3 w.heap.size 0 k (by omega)).trans (Hb3.out.block k hk)⟩
     exact ⟨x, rfl, hIn, Hxl.out.mono (by omega), Hxe.out, hBel⟩
theorem catch_idle (p : Addr) (w : World) :
 CallsD Tryz.prog 111 #[.pointer (some p)] .returning w fun e u' w' => e = .returned (.tuple #[]) ∧ u' = .returning ∧ w' = w := by
 refine callsD_of_wpS Tryz.func111 rfl fun c₀ cs hu => ?_
 apply wpS_seq
 apply wpS_region
 simp [wpOpsS, go_sem, recoverD, hu, Tryz.ntmps111, Exit.thenS]
 refine wpS_of_wp ?_
 go_wp2
 cases c₀
 simp_all [bodyPostS, results, Tryz.results111]
theorem run_fail0 {P : Program} {T X : TypeId} {fs : Array Field} (hu : P.underlying T = some (.struct fs)) (v : Value) (w : World) : (Instr.typeAssert (.iface T v) X T true).run P w = .ok (.tuple #[v, .bool true]) w := by
 simp [Instr.typeAssert, run_underlying hu, Result.andThen]
theorem run_fail (n : Int) (w : World) : (Instr.typeAssert (.iface 162 (.agg #[.int .i64 n])) 20 162 true).run Tryz.prog w = .ok (.tuple #[.agg #[.int .i64 n], .bool true]) w := run_fail0 Tryz.underlying162 _ _
set_option maxHeartbeats 1000000 in
theorem catch_boom (b : Nat) (n : Int) (x : Value) (w : World) (hb : Bk w b #[x] 48) :
 CallsD Tryz.prog 111 #[.pointer (some ⟨b, 0, none⟩)] (.panicking (boom n)) w fun e u' w' => e = .returned (.tuple #[]) ∧ (∃ v, u' = .panicking [{ v := v, recovered := true }]) ∧ w' = (w.setCell ⟨b, 0, none⟩ (.int .i64 n)).alloc (.cells #[.int .i64 n] 162) := by
 have hc : w.cell? ⟨b, 0, none⟩ = some x := hb.cell 0
 have hz := hb.thaw 0
 have hl := hb.lt
 refine callsD_of_wpS Tryz.func111 rfl fun c₀ cs hu => ?_
 unfold boom at hu
 have hta := run_fail n
 clear hb
 apply wpS_seq
 apply wpS_region
 simp [wpOpsS, go_sem, recoverD, hu, Tryz.ntmps111, Exit.thenS]
 refine wpS_of_wp ?_
 go_wp2
 cases c₀
 simp_all [bodyPostS, results, Tryz.results111]
def AttS (b : Nat) (R : Int → World → Prop) (e : Ending) (w' : World) : Prop := ∃ n w2, e = .returned (.int .i64 n) ∧ R n w2 ∧ Apb b w2 w'
set_option maxHeartbeats 4000000 in
theorem attempt_c (F : Nat) (caps : Array Value) (hF : ∀ w, (callFunc F caps).run Tryz.prog w = .ok (.enter F caps) w) (R : Int → World → Prop) (w : World)
 (hc : Calls Tryz.prog F caps (w.alloc (.cells #[.int .i64 0] 48)) fun e w' => (e = .returned (.tuple #[]) ∧ R 0 w' ∧ Bk w' w.heap.size #[.int .i64 0] 48) ∨ (∃ n, e = .panicked (boom n) ∧ R n w' ∧ Bk w' w.heap.size #[.int .i64 0] 48)) :
 Calls Tryz.prog 90 #[.func (.func F) #[] caps] w fun e w' => AttS w.heap.size R e w' := by
 obtain ⟨S, hS⟩ : ∃ S, AttS w.heap.size R = S := ⟨_, rfl⟩
 rw [hS]
 have HS := Lib.hid hS
 have HC := Lib.hid hc
 have hmf : ∀ (fn : Fn) (first cap : Array Value) (w : World), (Instr.makeFunc fn first cap).run Tryz.prog w = .ok (.func fn first cap) w := fun _ _ _ _ => rfl
 clear hc hS
 go_enter_defers Tryz.func90, Tryz.ntmps90
 go_wp2_with fail
 refine HC.out.mono ?_
 rintro e w1 (⟨rfl, hr, hb⟩ | ⟨n, rfl, hr, hb⟩)
 · have c0 : w1.cell? ⟨w.heap.size, 0, none⟩ = some (.int .i64 0) := hb.cell 0
   have f0 := hb.thaw 0
   have hl := hb.lt
   have Hr := Lib.hid hr
   have Hb := Lib.hid hb
   clear hr hb HC
   go_wp2
   refine leaves_cons (f := 111) (args := #[.pointer (some ⟨w.heap.size, 0, none⟩)]) (by simp) (by simp [go_sem]) ?_
   refine (catch_idle ⟨w.heap.size, 0, none⟩ _).mono ?_
   rintro e u' w'' ⟨rfl, rfl, rfl⟩
   have c1 : (w1.setCell ⟨w.heap.size, 0, none⟩ (.int .i64 0)).cell? ⟨w.heap.size, 0, none⟩ = some (.int .i64 0) := World.cell?_setCell_same _ _ _ c0
   have hS : S (.returned (.int .i64 0)) (w1.setCell ⟨w.heap.size, 0, none⟩ (.int .i64 0)) := by
    rw [← HS.out]
    exact ⟨0, w1, rfl, Hr.out, (Apb.refl _ _).set 0 _⟩
   simp [Leaves, settle, results, Tryz.results90, go_sem, c1]
   exact hS
 · refine leaves_cons (f := 111) (args := #[.pointer (some ⟨w.heap.size, 0, none⟩)]) (by simp) (by simp [go_sem]) ?_
   refine (catch_boom w.heap.size n _ _ hb).mono ?_
   rintro e u' w'' ⟨rfl, ⟨v, rfl⟩, rfl⟩
   have hne : w.heap.size < w1.heap.size := hb.lt
   have c1 : ((w1.setCell ⟨w.heap.size, 0, none⟩ (.int .i64 n)).alloc (.cells #[.int .i64 n] 162)).cell? ⟨w.heap.size, 0, none⟩ = some (.int .i64 n) := ((hb.set 0 (.int .i64 n)).after (below_one _ _) (by simp [World.setCell]; exact hne)).cell 0
   have hS : S (.returned (.int .i64 n)) ((w1.setCell ⟨w.heap.size, 0, none⟩ (.int .i64 n)).alloc (.cells #[.int .i64 n] 162)) := by
    rw [← HS.out]
    exact ⟨n, w1, rfl, hr, ((Apb.refl _ _).set 0 _).alloc _⟩
   generalize ((w1.setCell ⟨w.heap.size, 0, none⟩ (.int .i64 n)).alloc (.cells #[.int .i64 n] 162)) = W2 at c1 hS ⊢
   simp [Leaves, settle, results, Tryz.results90, go_sem, c1]
   exact hS
def WrP (p : Value) (w : World) (B b : Nat) (l : List UInt8) : Prop := B ≤ b ∧ ∃ v, Bk w b #[p, v] 168 ∧ Buf w B v l ∧ v.ownBlock ≠ some b
def Wr (w : World) (B b : Nat) (l : List UInt8) : Prop := WrP (.pointer none) w B b l ∨ WrP (.pointer (some ⟨b, 0, none⟩)) w B b l
structure Wk (B b : Nat) (w w' : World) : Prop where
 below : Below B w w'
 other : Lib.OthersKept 5 (some b) w w'
theorem Wk.refl (B b : Nat) (w : World) : Wk B b w w := ⟨Below.refl B w, Lib.OthersKept.refl _ _ w⟩
theorem Wk.trans {B b : Nat} {u v w : World} (h : Wk B b u v) (k : Wk B b v w) : Wk B b u w := ⟨h.below.trans k.below, h.other.trans k.other⟩
theorem Wk.drew {B b : Nat} {v w : World} (h : Wk B b v w) : Wk B b v w.drew := ⟨h.below.drew, h.other.drew⟩
theorem Wk.bk {B b k : Nat} {v w : World} {cs : Array Value} {T : TypeId} (h : Wk B b v w) (hk : Bk v k cs T) (hb : k ≠ b) (hT : T ≠ 5) : Bk w k cs T :=
 h.other k _ hk (by simpa using hb) (fun c fz e => hT (by injection e))
theorem Wk.alloc {B b : Nat} {v w : World} (h : Wk B b v w) (hB : B ≤ w.heap.size) (o : Obj) : Wk B b v (w.alloc o) := ⟨h.below.alloc hB o, h.other.alloc o⟩
theorem WrP.lt {p : Value} {w : World} {B b : Nat} {l : List UInt8} (h : WrP p w B b l) : b < w.heap.size := h.2.elim fun _ h => h.1.lt
theorem Wr.lt {w : World} {B b : Nat} {l : List UInt8} (h : Wr w B b l) : b < w.heap.size := h.elim WrP.lt WrP.lt
theorem Wr.le {w : World} {B b : Nat} {l : List UInt8} (h : Wr w B b l) : B ≤ w.heap.size := by have := h.lt; rcases h with h | h <;> (have := h.1; omega)
theorem WrP.alloc {p : Value} {w : World} {B b : Nat} {l : List UInt8} (h : WrP p w B b l) (o : Obj) : WrP p (w.alloc o) B b l := by
 obtain ⟨hB, v, hb, hv, hne⟩ := h
 exact ⟨hB, v, hb.after (below_one w o) hb.lt, hv.alloc o, hne⟩
theorem Wr.alloc {w : World} {B b : Nat} {l : List UInt8} (h : Wr w B b l) (o : Obj) : Wr (w.alloc o) B b l := h.imp (·.alloc o) (·.alloc o)
theorem Wr.drew {w : World} {B b : Nat} {l : List UInt8} (h : Wr w B b l) : Wr w.drew B b l := h
theorem Wr.after {w w' : World} {B b : Nat} {l : List UInt8} (h : Wr w B b l) (hb : Below w.heap.size w w') : Wr w' B b l := by
 refine h.imp ?_ ?_ <;> (rintro ⟨hB, v, hk, hv, hne⟩; exact ⟨hB, v, hk.after hb hk.lt, hv.after hb, hne⟩)
theorem sizeSB : (Tryz.prog.info? 166).map (·.size) = some 2 := by kernel_rfl
theorem liesSB : liesAt Tryz.prog Tryz.prog.depth 168 (2 / Tryz.prog.cellsOf 168) 0 166 1 = true := by kernel_rfl
set_option maxHeartbeats 1000000 in
theorem wused_c (B b : Nat) (l : List UInt8) (w : World) (h : WrP (.pointer (some ⟨b, 0, none⟩)) w B b l) :
 Calls Tryz.prog 199 #[.pointer (some ⟨b, 0, none⟩)] w fun e w' => e = .returned (.tuple #[]) ∧ w' = w := by
 obtain ⟨j, hj, _⟩ := Option.map_eq_some_iff.1 sizeSB
 obtain ⟨hB, v, hk, hv, hne⟩ := h
 have c0 := hk.cell 0
 simp only [List.getElem?_toArray, List.getElem?_cons_zero] at c0
 clear hk hv hne
 go_enter Tryz.func199, Tryz.ntmps199
 go_wp2
 rw [Lib.run_neq_ptr_same w _ Tryz.underlying163 hj]
 go_wp2
 go_end0
 exact ⟨rfl, rfl⟩
set_option maxHeartbeats 1000000 in
theorem wfresh_c (B b : Nat) (l : List UInt8) (w : World) (h : WrP (.pointer none) w B b l) :
 Calls Tryz.prog 199 #[.pointer (some ⟨b, 0, none⟩)] w fun e w' => e = .returned (.tuple #[]) ∧ WrP (.pointer (some ⟨b, 0, none⟩)) w' B b l ∧ Wk B b w w' := by
 obtain ⟨j, hj, hjs⟩ := Option.map_eq_some_iff.1 sizeSB
 obtain ⟨hB, v, hk, hv, hne⟩ := h
 have c0 := hk.cell 0
 simp only [List.getElem?_toArray, List.getElem?_cons_zero] at c0
 have f0 := hk.thaw 0
 have hsh : w.shape? b = some (168, 2) := by unfold Bk at hk; simp [World.shape?, hk]
 have hpost : WrP (.pointer (some ⟨b, 0, none⟩)) (w.setCell ⟨b, 0, none⟩ (.pointer (some ⟨b, 0, none⟩))) B b l := by
  refine ⟨hB, v, hk.set 0 _, ?_, hne⟩
  obtain ⟨h1, h2⟩ := hv
  refine ⟨h1, ?_⟩
  rcases h2 with h2 | ⟨g, cap, cur, hvv, hBg, hh, h3⟩
  · exact .inl h2
  · refine .inr ⟨g, cap, cur, hvv, hBg, ?_, h3⟩
    rw [Below.heap_setCell _ _ _ _ (fun e => hne (by rw [hvv]; simpa [Value.ownBlock] using e))]
    exact hh
 have hkeep : Wk B b w (w.setCell ⟨b, 0, none⟩ (.pointer (some ⟨b, 0, none⟩))) := ⟨(Below.refl B w).setCell (p := ⟨b, 0, none⟩) hB _, (Lib.OthersKept.refl _ _ w).setCell ⟨b, 0, none⟩ rfl _⟩
 have HP := Lib.hid hpost
 have HK := Lib.hid hkeep
 clear hk hv hne hpost hkeep
 go_enter Tryz.func199, Tryz.ntmps199
 go_wp2
 rw [Lib.run_to_unsafe w ⟨b, 0, none⟩ Tryz.underlying163 Tryz.underlying241 hj (by rw [hjs]; decide) hsh (Nat.zero_lt_succ 1)]
 simp only [Result.andThen]
 rw [Oper.upon_value]
 go_wp2
 rw [run_callFunc_extern Tryz.func208 (by kernel_rfl) (by kernel_rfl) (by kernel_rfl) (e := Extern.AbiNoEscape.same) (by kernel_rfl)]
 rw [Lib.run_noEscape]
 simp only [Result.andThen]
 rw [Oper.upon_value]
 go_wp2
 rw [Lib.run_from_unsafe w ⟨b, 0, none⟩ Tryz.underlying241 Tryz.underlying163 hj hsh liesSB]
 simp only [Result.andThen]
 rw [Oper.upon_value]
 go_wp2
 go_end0
 exact ⟨rfl, HP.out, HK.out⟩
theorem wcheck_c (B b : Nat) (l : List UInt8) (w : World) (h : Wr w B b l) :
 Calls Tryz.prog 199 #[.pointer (some ⟨b, 0, none⟩)] w fun e w' => e = .returned (.tuple #[]) ∧ WrP (.pointer (some ⟨b, 0, none⟩)) w' B b l ∧ Wk B b w w' := by
 rcases h with h | h
 · exact wfresh_c B b l w h
 · refine (wused_c B b l w h).mono ?_
   rintro e w' ⟨rfl, rfl⟩
   exact ⟨rfl, h, Wk.refl B b _⟩
theorem WrP.put {p : Value} {w : World} {B b : Nat} {v v' : Value} {l : List UInt8} (hB : B ≤ b) (hk : Bk w b #[p, v] 168) (hv : Buf w B v' l) : WrP p (w.setCell ⟨b, 1, none⟩ v') B b l := by
 have hne : v'.ownBlock ≠ some b := by
  intro e
  rcases hv.2 with ⟨h0, _⟩ | ⟨g, cap, cur, hvv, hBg, hh, h3⟩
  · rw [h0] at e; simp [Value.ownBlock] at e
  · rw [hvv] at e
    have : g = b := by simpa [Value.ownBlock] using e
    subst this
    unfold Bk at hk
    rw [hk] at hh
    injection hh with hh
    injection hh with _ hh _
    exact absurd hh (by decide)
 refine ⟨hB, v', hk.set 1 _, ?_, hne⟩
 obtain ⟨h1, h2⟩ := hv
 refine ⟨h1, ?_⟩
 rcases h2 with h2 | ⟨g, cap, cur, hvv, hBg, hh, h3⟩
 · exact .inl h2
 · refine .inr ⟨g, cap, cur, hvv, hBg, ?_, h3⟩
   rw [Below.heap_setCell _ _ _ _ (fun e => hne (by rw [hvv]; simpa [Value.ownBlock] using e))]
   exact hh
theorem Buf.form {w : World} {B : Nat} {v : Value} {l : List UInt8} (h : Buf w B v l) : ∃ A c, v = .slice A l.length c := by
 rcases h.2 with ⟨hv, h0⟩ | ⟨g, cap, cur, hv, _⟩
 · exact ⟨none, 0, by rw [hv, h0]⟩
 · exact ⟨_, _, hv⟩
theorem Buf.rowKind {w : World} {B : Nat} {v : Value} {l : List UInt8} (h : Buf w B v l) : ∀ g, v.ownBlock = some g → ∃ c fz, w.heap[g]? = some (.cells c 5 fz) := by
 intro g hg
 rcases h.2 with ⟨h0, _⟩ | ⟨g', cap, cur, hvv, hBg, hh, h3⟩
 · rw [h0] at hg; simp [Value.ownBlock] at hg
 · rw [hvv] at hg
   have : g' = g := by simpa [Value.ownBlock] using hg
   subst this
   exact ⟨_, _, hh⟩
set_option maxHeartbeats 1000000 in
theorem wlen_c (B b : Nat) (l : List UInt8) (w : World) (h : Wr w B b l) :
 Calls Tryz.prog 167 #[.pointer (some ⟨b, 0, none⟩)] w fun e w' => e = .returned (.int .i64 l.length) ∧ w' = w := by
 obtain ⟨p, hB, v, hk, hv, hne⟩ : ∃ p, WrP p w B b l := h.elim (fun h => ⟨_, h⟩) (fun h => ⟨_, h⟩)
 obtain ⟨A, c, rfl⟩ := hv.form
 have c1 := hk.cell 1
 simp only [List.getElem?_toArray, List.getElem?_cons_succ, List.getElem?_cons_zero] at c1
 clear hk hv hne
 go_enter Tryz.func167, Tryz.ntmps167
 go_wp2
 go_ret
 exact ⟨rfl, rfl⟩
set_option maxHeartbeats 2000000 in
theorem wbyte_c (B b : Nat) (l : List UInt8) (x : UInt8) (w : World) (h : Wr w B b l) (hl : l.length ≤ 1000000) :
 Calls Tryz.prog 168 #[.pointer (some ⟨b, 0, none⟩), .int .u8 x.toNat] w fun e w' => e = .returned .nilIface ∧ Wr w' B b (l ++ [x]) ∧ Wk B b w w' := by
 have HS := Lib.hid (wcheck_c B b l w h)
 have hle := h.le
 clear h
 obtain ⟨c, hc⟩ : ∃ c : Int, (x.toNat : Int) = c := ⟨_, rfl⟩
 rw [hc]
 have Hc := Lib.hid hc
 clear hc
 go_enter Tryz.func168, Tryz.ntmps168
 go_wp2_with fail
 refine HS.out.mono ?_
 rintro e w1 ⟨rfl, ⟨hB, v, hk, hv, hne⟩, hw1⟩
 have c0 := hk.cell 0
 simp only [List.getElem?_toArray, List.getElem?_cons_zero] at c0
 have c1 := hk.cell 1
 simp only [List.getElem?_toArray, List.getElem?_cons_succ, List.getElem?_cons_zero] at c1
 have hlt := hk.lt
 have Hk := Lib.hid hk
 have Hv := Lib.hid hv
 have Hne := Lib.hid hne
 have Hw := Lib.hid hw1
 clear hk hv hne hw1 HS
 go_wp2_with (at_builtin; go_must (refine wpList_appB rfl (.tmp 11) (.tmp 13) rfl B v l x rfl Hv.out Hc.out.symm w1.heap.size rfl rfl hl (by have := Hw.out.below.size; omega) ?_; intro v1 w2 hv1 hg1; obtain ⟨A1, n1, cc1, hf⟩ : ∃ A n c, v1 = .slice A n c := (hv1.form.elim fun A h => h.elim fun c h => ⟨A, _, c, h⟩); subst hf; have Hv1 := Lib.hid hv1; have Hg1 := Lib.hid hg1; have hk2 : Bk w2 b #[.pointer (some ⟨b, 0, none⟩), v] 168 := (hg1.block b hlt (fun e => Hne.out e.symm)).trans Hk.out; have d1 := hk2.cell 1; simp only [List.getElem?_toArray, List.getElem?_cons_succ, List.getElem?_cons_zero] at d1; have f1 := hk2.thaw 1; have Hk2 := Lib.hid hk2; clear hk2 hv1 hg1))
 go_ret
 refine ⟨rfl, .inr (WrP.put hB Hk2.out Hv1.out), Hw.out.trans ⟨?_, ?_⟩⟩
 · exact ((Below.refl B w1).grown Hg1.out (by have := Hw.out.below.size; omega) (fun k hk => (Hv.out.lt k hk).1)).setCell (p := ⟨b, 1, none⟩) hB _
 · exact ((Lib.OthersKept.refl _ _ w1).grown Hg1.out Hv.out.rowKind).setCell ⟨b, 1, none⟩ rfl _
set_option maxHeartbeats 2000000 in
theorem wstr_c (B b : Nat) (l s : List UInt8) (w : World) (h : Wr w B b l) (hl : l.length + s.length ≤ 1000000) :
 Calls Tryz.prog 169 #[.pointer (some ⟨b, 0, none⟩), .string (ba s)] w fun e w' => e = .returned (.tuple #[.int .i64 s.length, .nilIface]) ∧ Wr w' B b (l ++ s) ∧ Wk B b w w' := by
 have HS := Lib.hid (wcheck_c B b l w h)
 have hle := h.le
 clear h
 have hsz : (ba s).size = s.length := rfl
 obtain ⟨t, ht⟩ : ∃ t, ba s = t := ⟨_, rfl⟩
 obtain ⟨m, hm⟩ : ∃ m, s.length = m := ⟨_, rfl⟩
 rw [ht, hm] at hsz
 rw [ht, hm]
 have hbnd : t.size ≤ 1000000 := by omega
 have Ht := Lib.hid ht
 have Hm := Lib.hid hm
 have Hsz := Lib.hid hsz
 have hl2 : l.length + t.size ≤ 1000000 := by omega
 have Hl := Lib.hid hl2
 subst hsz
 clear ht hm hl hl2
 go_enter Tryz.func169, Tryz.ntmps169
 go_wp2_with fail
 refine HS.out.mono ?_
 rintro e w1 ⟨rfl, ⟨hB, v, hk, hv, hne⟩, hw1⟩
 have c0 := hk.cell 0
 simp only [List.getElem?_toArray, List.getElem?_cons_zero] at c0
 have c1 := hk.cell 1
 simp only [List.getElem?_toArray, List.getElem?_cons_succ, List.getElem?_cons_zero] at c1
 have hlt := hk.lt
 have Hk := Lib.hid hk
 have Hv := Lib.hid hv
 have Hne := Lib.hid hne
 have Hw := Lib.hid hw1
 clear hk hv hne hw1 HS
 go_wp2_with (at_builtin; go_must (refine wpList_appS rfl (.tmp 12) (.tmp 13) rfl B v l t rfl Hv.out rfl Hl.out (by have := Hw.out.below.size; omega) ?_; intro v1 w2 hv1 hg1; obtain ⟨A1, n1, cc1, hf⟩ : ∃ A n c, v1 = .slice A n c := (hv1.form.elim fun A h => h.elim fun c h => ⟨A, _, c, h⟩); subst hf; have Hv1 := Lib.hid hv1; have Hg1 := Lib.hid hg1; have hk2 : Bk w2 b #[.pointer (some ⟨b, 0, none⟩), v] 168 := (hg1.block b hlt (fun e => Hne.out e.symm)).trans Hk.out; have d1 := hk2.cell 1; simp only [List.getElem?_toArray, List.getElem?_cons_succ, List.getElem?_cons_zero] at d1; have f1 := hk2.thaw 1; have Hk2 := Lib.hid hk2; clear hk2 hv1 hg1))
 go_ret2
 have Hv2 : Hid (Buf w2 B (.slice A1 n1 cc1) (l ++ s)) := by
  have := Hv1.out
  rw [← Ht.out] at this
  exact Lib.hid this
 refine ⟨rfl, .inr (WrP.put hB Hk2.out Hv2.out), Hw.out.trans ⟨?_, ?_⟩⟩
 · exact ((Below.refl B w1).grown Hg1.out (by have := Hw.out.below.size; omega) (fun k hk => (Hv.out.lt k hk).1)).setCell (p := ⟨b, 1, none⟩) hB _
 · exact ((Lib.OthersKept.refl _ _ w1).grown Hg1.out Hv.out.rowKind).setCell ⟨b, 1, none⟩ rfl _
def blankW (l : List UInt8) : List UInt8 := if l = [] then [] else l ++ [32]
def addW : List UInt8 → List (List UInt8) → Option (List UInt8)
 | l, [] => some l
 | l, s :: ss => if (blankW l).length + s.length ≤ 20000 then addW (blankW l ++ s) ss else none
def WS (B b : Nat) (w : World) (o : Option (List UInt8)) (e : Ending) (w' : World) : Prop :=
 match o with
 | none => e = .panicked (boom 70) ∧ Wk B b w w'
 | some l => e = .returned (.tuple #[]) ∧ Wr w' B b l ∧ l.length ≤ 20000 ∧ Wk B b w w'
def Ws (w : World) (k b : Nat) (ws : List (List UInt8)) : Prop := Bk w k (ws.map fun s => Value.string (ba s)).toArray 9 ∧ k ≠ b
theorem Ws.cell {w : World} {k b : Nat} {ws : List (List UInt8)} (h : Ws w k b ws) {j : Nat} {s : List UInt8} (hs : ws[j]? = some s) : w.cell? ⟨k, j, none⟩ = some (.string (ba s)) := by
 rw [h.1.cell j]; simp [hs]
theorem Ws.keep {w w' : World} {B k b : Nat} {ws : List (List UInt8)} (h : Ws w k b ws) (hk : Wk B b w w') : Ws w' k b ws := ⟨hk.bk h.1 h.2 (by decide), h.2⟩
theorem req_c (D : Bool) (w : World) : Calls Tryz.prog 114 #[.bool D] w fun e w' => e = (if D then .returned (.tuple #[]) else .panicked (boom 70)) ∧ w' = w := by
 cases D
 · exact req_no w
 · exact req_yes w
theorem wblank_c (B b : Nat) (l : List UInt8) (w : World) (h : Wr w B b l) (hl : l.length ≤ 20000) :
 Calls Tryz.prog 168 #[.pointer (some ⟨b, 0, none⟩), .int .u8 32] w fun e w' => e = .returned .nilIface ∧ Wr w' B b (l ++ [32]) ∧ Wk B b w w' := wbyte_c B b l 32 w h (by omega)
set_option maxHeartbeats 4000000 in
theorem add_c (B b k0 : Nat) (l : List UInt8) (ws : List (List UInt8)) (nw : Nat) (w : World) (h : Wr w B b l) (hl : l.length ≤ 20000) (hW : Ws w k0 b ws) (hnw : ws.length = nw) (hmw : nw ≤ 1000) (hsm : ∀ s ∈ ws, s.length ≤ 4611686018427387904) :
 Calls Tryz.prog 140 #[.pointer (some ⟨b, 0, none⟩), .slice (some ⟨k0, 0, none⟩) nw nw] w (WS B b w (addW l ws)) := by
 obtain ⟨S, hS⟩ : ∃ S, WS B b w (addW l ws) = S := ⟨_, rfl⟩
 rw [hS]
 have HS := Lib.hid hS
 have Hw := Lib.hid h
 have HW := Lib.hid hW
 have Hl := Lib.hid hnw
 have Hsm := Lib.hid hsm
 have Hll := Lib.hid hl
 clear hS h hW hnw hsm hl
 go_enter Tryz.func140, Tryz.ntmps140
 go_wp2_with fail
 go_loopw [8] (fun i wr => ∃ (k : Nat) (lc : List UInt8), k ≤ nw ∧ i = .int .i64 k ∧ Hid (Wr wr B b lc) ∧ Hid (Wk B b w wr) ∧ Hid (addW l ws = addW lc (ws.drop k)) ∧ Hid (lc.length ≤ 20000)) (fun i _ => nw - (intOf i).toNat)
 case atStart => exact ⟨0, l, Nat.zero_le _, rfl, Hw, Lib.hid (Wk.refl B b _), Lib.hid rfl, Hll⟩
 case round =>
  obtain ⟨k, lc, hk, rfl, hwr, hwk, Hj, hlc⟩ := hrel
  by_cases hlt : k < nw
  · obtain ⟨s, hs⟩ : ∃ s, ws[k]? = some s := ⟨_, List.getElem?_eq_getElem (by rw [Hl.out]; exact hlt)⟩
    have hss : s.length ≤ 4611686018427387904 := Hsm.out s (List.mem_of_getElem? hs)
    have d1 := (HW.out.keep hwk.out).cell hs
    obtain ⟨u, hu⟩ : ∃ u : ByteArray, ba s = u := ⟨_, rfl⟩
    have hus : u.size = s.length := by rw [← hu]; rfl
    rw [hu] at d1
    have Hbu := Lib.hid hu
    have Hs := Lib.hid hs
    have hlc2 := hlc.out
    clear hu hs
    by_cases hnil : lc = []
    · subst hnil
      obtain ⟨m1, hm1⟩ : ∃ m1 : List UInt8, m1 = [] := ⟨_, rfl⟩
      have HM1 : Hid (Wr wr B b m1) := by rw [hm1]; exact hwr
      have hm1l : m1.length ≤ 20001 := by rw [hm1]; simp
      have Em1 := Lib.hid hm1
      clear hm1
      go_wp2_with fail
      refine (wlen_c B b [] wr hwr.out).mono ?_
      rintro e w2 ⟨rfl, hw9⟩
      obtain rfl := hw9.symm
      go_wp2_with fail
      refine (wlen_c B b m1 wr HM1.out).mono ?_
      rintro e w5 ⟨rfl, hw9⟩
      obtain rfl := hw9.symm
      go_wp2_with fail
      refine (req_c _ _).mono ?_
      rintro e w6 ⟨rfl, hw9⟩
      obtain rfl := hw9.symm
      by_cases hfit : m1.length + s.length ≤ 20000
      · have hd : decide ((m1.length : Int) + (s.length : Int) ≤ 20000) = true := by rw [decide_eq_true_iff]; omega
        have H2 := Lib.hid (wstr_c B b m1 s wr HM1.out (by omega))
        rw [Hbu.out] at H2
        have HN : Hid (addW [] (ws.drop k) = addW (m1 ++ s) (ws.drop (k + 1))) := by
         refine Lib.hid ?_
         rw [List.drop_eq_getElem_cons (by rw [Hl.out]; exact hlt), addW]
         have e1 : ws[k]'(by rw [Hl.out]; exact hlt) = s := by have := Hs.out; rw [List.getElem?_eq_getElem (by rw [Hl.out]; exact hlt)] at this; exact Option.some.inj this
         rw [e1, show blankW [] = m1 from Em1.out.symm, if_pos hfit]
        have Hfit := Lib.hid hfit
        clear hfit
        simp only [hd, if_true]
        go_wp2_with fail
        refine H2.out.mono ?_
        rintro e w7 ⟨rfl, hw7, hk7⟩
        have HM7 := Lib.hid hw7
        have HK7 := Lib.hid (hwk.out.trans hk7)
        clear hw7 hk7 H2
        go_wp2_with fail
        go_roundw
        case rel => exact ⟨k + 1, m1 ++ s, hlt, by simp, HM7, HK7, by have := HN.out; rw [← this]; exact Hj, by have := Hfit.out; refine Lib.hid ?_; simp; omega⟩
        case measure => simp [intOf]; omega
      · have hd : decide ((m1.length : Int) + (s.length : Int) ≤ 20000) = false := by rw [decide_eq_false_iff_not]; omega
        simp only [hd]
        refine ⟨rfl, ?_⟩
        rw [← HS.out]
        have HN : addW [] (ws.drop k) = none := by
         rw [List.drop_eq_getElem_cons (by rw [Hl.out]; exact hlt), addW]
         have e1 : ws[k]'(by rw [Hl.out]; exact hlt) = s := by have := Hs.out; rw [List.getElem?_eq_getElem (by rw [Hl.out]; exact hlt)] at this; exact Option.some.inj this
         rw [e1, show blankW [] = m1 from Em1.out.symm, if_neg hfit]
        rw [Hj.out, HN]
        exact ⟨rfl, hwk.out⟩
    · have hn0 : lc.length ≠ 0 := by simpa using hnil
      obtain ⟨n, hn⟩ : ∃ n, lc.length = n := ⟨_, rfl⟩
      have HLn := wlen_c B b lc wr hwr.out
      rw [hn] at HLn hn0 hlc2
      have HLn := Lib.hid HLn
      have Hnil := Lib.hid hnil
      have Hn := Lib.hid hn
      clear hnil hn
      go_wp2_with fail
      refine HLn.out.mono ?_
      rintro e w2 ⟨rfl, hw9⟩
      obtain rfl := hw9.symm
      go_wp2_with fail
      refine (wblank_c B b lc wr hwr.out (by rw [Hn.out]; exact hlc2)).mono ?_
      rintro e w3 ⟨rfl, hw3, hk3⟩
      obtain ⟨m2, hm2⟩ : ∃ m2 : List UInt8, m2 = lc ++ [32] := ⟨_, rfl⟩
      rw [← hm2] at hw3
      have HM2 := Lib.hid hw3
      have HK2 := Lib.hid (hwk.out.trans hk3)
      have hm2l : m2.length ≤ 20001 := by rw [hm2]; simp; rw [Hn.out]; exact hlc2
      have Em2 := Lib.hid hm2
      clear hm2 hw3 hk3
      go_wp2_with fail
      refine (wlen_c B b m2 w3 HM2.out).mono ?_
      rintro e w5 ⟨rfl, hw9⟩
      obtain rfl := hw9.symm
      go_wp2_with fail
      refine (req_c _ _).mono ?_
      rintro e w6 ⟨rfl, hw9⟩
      obtain rfl := hw9.symm
      by_cases hfit : m2.length + s.length ≤ 20000
      · have hd : decide ((m2.length : Int) + (s.length : Int) ≤ 20000) = true := by rw [decide_eq_true_iff]; omega
        have H2 := Lib.hid (wstr_c B b m2 s w3 HM2.out (by omega))
        rw [Hbu.out] at H2
        have HN : Hid (addW lc (ws.drop k) = addW (m2 ++ s) (ws.drop (k + 1))) := by
         refine Lib.hid ?_
         rw [List.drop_eq_getElem_cons (by rw [Hl.out]; exact hlt), addW]
         have e1 : ws[k]'(by rw [Hl.out]; exact hlt) = s := by have := Hs.out; rw [List.getElem?_eq_getElem (by rw [Hl.out]; exact hlt)] at this; exact Option.some.inj this
         rw [e1, show blankW lc = m2 by rw [Em2.out]; exact if_neg Hnil.out, if_pos hfit]
        have Hfit := Lib.hid hfit
        clear hfit
        simp only [hd, if_true]
        go_wp2_with fail
        refine H2.out.mono ?_
        rintro e w7 ⟨rfl, hw7, hk7⟩
        have HM7 := Lib.hid hw7
        have HK7 := Lib.hid (HK2.out.trans hk7)
        clear hw7 hk7 H2
        go_wp2_with fail
        go_roundw
        case rel => exact ⟨k + 1, m2 ++ s, hlt, by simp, HM7, HK7, by have := HN.out; rw [← this]; exact Hj, by have := Hfit.out; refine Lib.hid ?_; simp; omega⟩
        case measure => simp [intOf]; omega
      · have hd : decide ((m2.length : Int) + (s.length : Int) ≤ 20000) = false := by rw [decide_eq_false_iff_not]; omega
        simp only [hd]
        refine ⟨rfl, ?_⟩
        rw [← HS.out]
        have HN : addW lc (ws.drop k) = none := by
         rw [List.drop_eq_getElem_cons (by rw [Hl.out]; exact hlt), addW]
         have e1 : ws[k]'(by rw [Hl.out]; exact hlt) = s := by have := Hs.out; rw [List.getElem?_eq_getElem (by rw [Hl.out]; exact hlt)] at this; exact Option.some.inj this
         rw [e1, show blankW lc = m2 by rw [Em2.out]; exact if_neg Hnil.out, if_neg hfit]
        rw [Hj.out, HN]
        exact ⟨rfl, HK2.out⟩
  · obtain rfl : k = nw := by omega
    go_wp2
    go_end0
    rw [← HS.out, Hj.out, List.drop_eq_nil_of_le (by rw [Hl.out]; exact Nat.le_refl _), addW]
    exact ⟨rfl, hwr.out, hlc.out, hwk.out⟩
def Ts (w : World) (b : Nat) (ss : List ByteArray) : Prop := w.heap[b]? = some (.cells (ss.map Value.string).toArray 9 (0, 0))
theorem Ts.lt {w : World} {b : Nat} {ss : List ByteArray} (h : Ts w b ss) : b < w.heap.size := by
 rcases Nat.lt_or_ge b w.heap.size with hlt | hge
 · exact hlt
 · unfold Ts at h; rw [Array.getElem?_eq_none hge] at h; cases h
theorem Ts.after {w w' : World} {b : Nat} {ss : List ByteArray} (h : Ts w b ss) (hb : Below w.heap.size w w') : Ts w' b ss := (hb.block b h.lt).trans h
theorem Ts.cell {w : World} {b : Nat} {ss : List ByteArray} (h : Ts w b ss) (i : Nat) (s : ByteArray) (hk : ss[i]? = some s) : w.cell? ⟨b, i, none⟩ = some (.string s) := by
 unfold Ts at h; simp [World.cell?, h, hk]
theorem Ts.frozen {w : World} {b : Nat} {ss : List ByteArray} (h : Ts w b ss) (i : Nat) : w.frozen? ⟨b, i, none⟩ = false := by unfold Ts at h; simp [World.frozen?, h]
theorem Ts.set {w : World} {b : Nat} {ss : List ByteArray} (h : Ts w b ss) (i : Nat) (s : ByteArray) : Ts (w.setCell ⟨b, i, none⟩ (.string s)) b (ss.set i s) := by
 unfold Ts at *
 simp [World.setCell, Array.getElem?_modify, h, List.map_set]
theorem strInfo : (Tryz.prog.info? 9).map (fun i => (i.zero, i.size, i.bytes)) = some (some (.string emp), 1, 16) := by kernel_rfl
theorem make_strs (n : Nat) (hn : n ≤ 1000000) (w : World) : (Instr.makeSlice 100 (.int .i64 n) (.int .i64 n)).run Tryz.prog w = .ok (.slice (some ⟨w.heap.size, 0, none⟩) n n) (w.alloc (.cells ((List.replicate n emp).map Value.string).toArray 9)) := by
 obtain ⟨i0, hi, hz0, hz1, hz2⟩ := info_parts strInfo
 have h := run_make (P := Tryz.prog) w 100 9 i0 (.string emp) Tryz.underlying100 hi hz0 .i64 .i64 n n (by omega) (by omega) (by rw [hz2]; omega) (by omega)
 rw [h, hz1, Int.toNat_natCast, Nat.mul_one]
 have e : madeCells (Value.string emp).cells n = ((List.replicate n emp).map Value.string).toArray := by
  have h1 : (madeCells #[.string emp] n).toList = List.replicate n (.string emp) := toList_madeCells_one _ _
  rw [List.map_replicate, ← h1]
  rfl
 rw [e]
section
variable (wd : Nd → ByteArray)
def halfT (e : List Nd) (k : Nat) : List ByteArray := (e.take k).map wd ++ List.replicate (e.length - k) emp
theorem halfT_zero (e : List Nd) : halfT wd e 0 = List.replicate e.length emp := by simp [halfT]
theorem halfT_full (e : List Nd) (k : Nat) (h : e.length ≤ k) : halfT wd e k = e.map wd := by
 unfold halfT
 rw [List.take_of_length_le h, show e.length - k = 0 by omega]
 simp
theorem halfT_len (e : List Nd) (k : Nat) (h : k ≤ e.length) : (halfT wd e k).length = e.length := by simp [halfT]; omega
theorem halfT_step (e : List Nd) (k : Nat) (x : Nd) (h : e[k]? = some x) : (halfT wd e k).set k (wd x) = halfT wd e (k + 1) := by
 have hlt : k < e.length := (List.getElem?_eq_some_iff.1 h).1
 unfold halfT
 have hl : ((e.take k).map wd).length = k := by simp; omega
 rw [List.set_append_right _ _ (by omega), hl, Nat.sub_self, List.take_add_one, h, show e.length - k = (e.length - (k + 1)) + 1 by omega, List.replicate_succ]
 simp
end
def textR (wd : Nd → ByteArray) (e : List Nd) : ByteArray := ⟨(Lib.join ((e.map wd).map (·.data.toList)) [32]).toArray⟩
set_option maxHeartbeats 4000000 in
theorem etext_c (wd : Nd → ByteArray) (A : Option Addr) (n c : Nat) (e : List Nd) (w : World) (hn : e.length = n) (h0 : 0 < n) (hmax : n ≤ 120) (hs : SlG w A 5 rdN e) (hlen : (Lib.join ((e.map wd).map (·.data.toList)) [32]).length ≤ 140737488355328)
 (hw : ∀ x ∈ e, ∀ w', Below w.heap.size w w' → Calls Tryz.prog 209 #[x.w] w' fun en w'' => en = .returned (.string (wd x)) ∧ Below w'.heap.size w' w'') :
 Calls Tryz.prog 200 #[.slice A n c] w fun en w' => en = .returned (.string (textR wd e)) ∧ Below w.heap.size w w' := by
 have hmk := make_strs n (by omega)
 have Hn := Lib.hid hn
 have Hs := Lib.hid hs
 have Hw := Lib.hid hw
 have Hl := Lib.hid hlen
 obtain ⟨R, hR⟩ : ∃ R, textR wd e = R := ⟨_, rfl⟩
 rw [hR]
 have HR := Lib.hid hR
 clear hn hs hw hR hlen
 obtain ⟨O, hO⟩ : ∃ O : Obj, O = .cells ((List.replicate n emp).map Value.string).toArray 9 := ⟨_, rfl⟩
 rw [← hO] at hmk
 have HO := Lib.hid hO
 clear hO
 go_enter Tryz.func200, Tryz.ntmps200
 go_wp2_with fail
 have hT : Ts (w.alloc O) w.heap.size (halfT wd e 0) := by
  rw [halfT_zero, Hn.out, HO.out]
  show (w.heap.push _)[w.heap.size]? = _
  simp
 have HT := Lib.hid hT
 have HB := Lib.hid (below_one w O)
 clear hT hmk
 generalize w.alloc O = w0 at HT HB ⊢
 go_loopw [11] (fun i wr => ∃ k : Nat, k ≤ n ∧ i = .int .i64 k ∧ Hid (Ts wr w.heap.size (halfT wd e k)) ∧ Hid (Below w.heap.size w wr)) (fun i _ => n - (intOf i).toNat)
 case atStart => exact ⟨0, Nat.zero_le _, rfl, HT, HB⟩
 case round =>
  obtain ⟨k, hk, rfl, hT, hbr⟩ := hrel
  by_cases hlt' : k < n
  · obtain ⟨x, hx⟩ : ∃ x, e[k]? = some x := ⟨e[k]'(by rw [Hn.out]; exact hlt'), List.getElem?_eq_getElem _⟩
    rcases Hs.out with h0 | ⟨b, off, rfl, hlt, hc⟩
    · rw [h0] at hx; simp at hx
    have hc1 := hc k x hx
    have d0 := (hbr.out.cell (p := ⟨b, off + k * 5, none⟩) hlt).trans (hc1 0 _ rfl)
    have d1 := (hbr.out.cell (p := ⟨b, off + k * 5 + 1, none⟩) hlt).trans (hc1 1 _ rfl)
    have d2 := (hbr.out.cell (p := ⟨b, off + k * 5 + 2, none⟩) hlt).trans (hc1 2 _ rfl)
    have d3 := (hbr.out.cell (p := ⟨b, off + k * 5 + 3, none⟩) hlt).trans (hc1 3 _ rfl)
    have d4 := (hbr.out.cell (p := ⟨b, off + k * 5 + 4, none⟩) hlt).trans (hc1 4 _ rfl)
    have Hstep := Lib.hid (halfT_step wd e k x hx)
    obtain ⟨y, hy⟩ : ∃ y, (halfT wd e k)[k]? = some y := ⟨(halfT wd e k)[k]'(by rw [halfT_len wd e k (by rw [Hn.out]; exact hk), Hn.out]; exact hlt'), List.getElem?_eq_getElem _⟩
    have Hy := Lib.hid hy
    have Hcall := Lib.hid (Hw.out x (List.mem_of_getElem? hx))
    clear hc1 hc hx hy
    go_wp2_with fail
    refine (Hcall.out _ (hbr.out.alloc hbr.out.size _)).mono ?_
    rintro en w1 ⟨rfl, hb1⟩
    have hb2 : Below wr.heap.size wr w1 := (below_one _ _).trans (hb1.mono (by simp))
    have T1 := hT.out.after hb2
    have HB1 := Lib.hid (hbr.out.trans (hb2.mono hbr.out.size))
    have t0 := T1.cell k y Hy.out
    have t1 := T1.frozen k
    have t2 := T1.lt
    obtain ⟨s, hs⟩ : ∃ s, wd x = s := ⟨_, rfl⟩
    rw [hs] at Hstep ⊢
    have HT1 := Lib.hid T1
    clear T1 hb1 hb2 hT hbr d0 d1 d2 d3 d4 Hcall hs
    go_wp2
    go_roundw
    case rel =>
     refine ⟨k + 1, by omega, by go_num, Lib.hid ?_, Lib.hid ?_⟩
     · rw [← Hstep.out]
       exact HT1.out.set k s
     · exact HB1.out.setCell (p := ⟨w.heap.size, k, none⟩) (Nat.le_refl _) _
    case measure => simp [intOf]; omega
  · have hkn : k = n := by omega
    have hT' := hT.out
    rw [halfT_full wd e k (by rw [Hn.out]; omega)] at hT'
    have hJ := Tryz.strings_Join w.heap.size 0 n (e.map wd) ⟨#[32]⟩ wr (fun j x hx => by rw [Nat.zero_add]; exact hT'.cell j x hx) hT'.lt (by rw [List.length_map, Hn.out]; omega) (by rw [List.length_map, Hn.out]; exact Nat.le_refl _) Hl.out
    rw [List.length_map, Hn.out] at hJ
    have HJ := Lib.hid hJ
    clear hT' hT hJ
    go_wp2_with fail
    refine HJ.out.mono ?_
    rintro en w1 ⟨rfl, hb1⟩
    have HB1 := Lib.hid (hbr.out.trans (hb1.mono hbr.out.size))
    have hR := HR.out
    unfold textR at hR
    rw [hR]
    clear hb1 hbr hR HJ
    go_wp2
    go_ret
    exact ⟨rfl, HB1.out⟩
def opL : List (List UInt8) := [[], [], [43], [45], [42], [61], [60], [97, 110, 100], [111, 114], [110, 111, 116], [110, 117, 108, 108, 63]]
def wordL (x : Nd) : List UInt8 := if x.op = 0 then 99 :: Lib.itoa x.n else if x.op = 1 then textL x.v else if x.op < 0 ∨ 11 ≤ x.op then [63] else opL.getD x.op.toNat []
def OpT (w : World) : Prop := ∀ i s, opL[i]? = some s → w.cell? ⟨0, i, none⟩ = some (.string (ba s))
theorem OpT.lt {w : World} (h : OpT w) : 0 < w.heap.size := World.block_lt_of_cell? _ _ (h 0 [] rfl)
theorem OpT.below {w w' : World} {B : Nat} (h : OpT w) (hb : Below B w w') (hB : 0 < B) : OpT w' := fun i s hs => (hb.cell (p := ⟨0, i, none⟩) hB).trans (h i s hs)
set_option maxHeartbeats 4000000 in
theorem word_op (op n : Int) (v : Val) (k : Nat) (hk : op = k) (h2 : 2 ≤ k) (h11 : k < 11) (w : World) (hT : OpT w) :
 Calls Tryz.prog 209 #[(⟨op, n, v⟩ : Nd).w] w fun e w' => e = .returned (.string (ba (opL.getD k []))) ∧ Below w.heap.size w w' := by
 have hlt := hT.lt
 obtain ⟨s, hs⟩ : ∃ s, opL[k]? = some s := ⟨_, List.getElem?_eq_getElem (by show k < 11; exact h11)⟩
 have hg : opL.getD k [] = s := by simp [hs]
 rw [hg]
 have d := hT k s hs
 obtain ⟨u, hu⟩ : ∃ u : ByteArray, ba s = u := ⟨_, rfl⟩
 rw [hu] at d ⊢
 obtain ⟨a, b, c⟩ := v
 clear hs hg hu hT
 have hc : k = 2 ∨ k = 3 ∨ k = 4 ∨ k = 5 ∨ k = 6 ∨ k = 7 ∨ k = 8 ∨ k = 9 ∨ k = 10 := by omega
 clear h2 h11
 subst hk
 rcases hc with rfl | rfl | rfl | rfl | rfl | rfl | rfl | rfl | rfl
 all_goals
  go_enter Tryz.func209, Tryz.ntmps209
  go_wp2
  go_ret
  exact ⟨rfl, below_one _ _⟩
set_option maxHeartbeats 4000000 in
theorem word_out (op n : Int) (v : Val) (h : op < 0 ∨ 11 ≤ op) (w : World) :
 Calls Tryz.prog 209 #[(⟨op, n, v⟩ : Nd).w] w fun e w' => e = .returned (.string ⟨#[63]⟩) ∧ Below w.heap.size w w' := by
 obtain ⟨a, b, c⟩ := v
 rcases h with h | h
 · have h0 : decide (op < 0) = true := by simpa using h
   have h1 : ¬ op = 0 := by omega
   have h2 : ¬ op = 1 := by omega
   go_enter Tryz.func209, Tryz.ntmps209
   go_wp2
   go_ret
   exact ⟨rfl, below_one _ _⟩
 · have h0 : decide (op < 0) = false := by simp; omega
   have h3 : decide (op ≥ 11) = true := by simp; omega
   have h1 : ¬ op = 0 := by omega
   have h2 : ¬ op = 1 := by omega
   go_enter Tryz.func209, Tryz.ntmps209
   go_wp2
   go_ret
   exact ⟨rfl, below_one _ _⟩
set_option maxHeartbeats 4000000 in
theorem word_col (n : Int) (v : Val) (hn : -9223372036854775808 ≤ n ∧ n ≤ 9223372036854775807) (w : World) (hG : Gl w) :
 Calls Tryz.prog 209 #[(⟨0, n, v⟩ : Nd).w] w fun e w' => e = .returned (.string (ba (99 :: Lib.itoa n))) ∧ Below w.heap.size w w' := by
 obtain ⟨a, b, c⟩ := v
 have HI := Lib.hid (Tryz.strconv_Itoa n hn.1 hn.2 (w.alloc (.cells #[.int .i64 0, .int .i64 n, .int .i64 a, .int .i64 b, .string c] 83)) (hG.after (below_one w _)).tab)
 clear hG
 go_enter Tryz.func209, Tryz.ntmps209
 go_wp2_with fail
 refine HI.out.mono ?_
 rintro e w1 ⟨rfl, k, os, hw⟩
 have Hb := Lib.hid (show Below _ _ w1 by rw [hw]; exact below_grow _ k os)
 have hln := itoa_len n hn
 obtain ⟨t, ht⟩ : ∃ t, Lib.itoa n = t := ⟨_, rfl⟩
 rw [ht] at hln ⊢
 obtain ⟨u, hu⟩ : ∃ u : ByteArray, (⟨t.toArray⟩ : ByteArray) = u := ⟨_, rfl⟩
 have hus : u.size ≤ 21 := by rw [← hu]; exact hln
 rw [hu]
 have Hu := Lib.hid hu
 have Ht := Lib.hid ht
 clear ht HI hw hu hln
 go_wp2
 go_ret
 exact ⟨by rw [← Hu.out, Ht.out]; congr 2, (below_one _ _).trans (Hb.out.mono (by simp))⟩
set_option maxHeartbeats 4000000 in
theorem word_val (n : Int) (v : Val) (hv : -9223372036854775808 ≤ v.n ∧ v.n ≤ 9223372036854775807) (hs : v.s.size ≤ 2000) (w : World) (hG : Gl w) :
 Calls Tryz.prog 209 #[(⟨1, n, v⟩ : Nd).w] w fun e w' => e = .returned (.string (ba (textL v))) ∧ Below w.heap.size w w' := by
 obtain ⟨a, b, c⟩ := v
 have HI := Lib.hid (text_c ⟨a, b, c⟩ (w.alloc (.cells #[.int .i64 1, .int .i64 n, .int .i64 a, .int .i64 b, .string c] 83)) hv hs (hG.after (below_one w _)))
 obtain ⟨t, ht⟩ : ∃ t, textL ⟨a, b, c⟩ = t := ⟨_, rfl⟩
 rw [ht] at HI ⊢
 clear hG ht
 go_enter Tryz.func209, Tryz.ntmps209
 go_wp2_with fail
 refine HI.out.mono ?_
 rintro e w1 ⟨rfl, hb⟩
 have Hb := Lib.hid hb
 clear HI hb
 go_wp2
 go_ret
 exact ⟨rfl, (below_one _ _).trans (Hb.out.mono (by simp))⟩
end Go.Proofs.YtamekagminbejaaGreatDoor
namespace Go.Proofs.YtamekagminbejaaGreatDoor
open Go Go.RowKit
set_option maxRecDepth 100000
def NdOk (x : Nd) : Prop := (-9223372036854775808 ≤ x.n ∧ x.n ≤ 9223372036854775807) ∧ (-9223372036854775808 ≤ x.v.n ∧ x.v.n ≤ 9223372036854775807) ∧ x.v.s.size ≤ 2000
theorem nword_c (x : Nd) (hx : NdOk x) (w : World) (hG : Gl w) (hT : OpT w) :
 Calls Tryz.prog 209 #[x.w] w fun e w' => e = .returned (.string (ba (wordL x))) ∧ Below w.heap.size w w' := by
 obtain ⟨op, n, v⟩ := x
 obtain ⟨h1, h2, h3⟩ := hx
 unfold wordL
 simp only
 by_cases e0 : op = 0
 · subst e0; exact word_col n v h1 w hG
 · rw [if_neg e0]
   by_cases e1 : op = 1
   · subst e1; exact word_val n v h2 h3 w hG
   · rw [if_neg e1]
     by_cases e2 : op < 0 ∨ 11 ≤ op
     · rw [if_pos e2]; exact word_out op n v e2 w
     · rw [if_neg e2]
       obtain ⟨k, rfl⟩ : ∃ k : Nat, op = k := ⟨op.toNat, by omega⟩
       rw [Int.toNat_natCast]
       exact word_op k n v k rfl (by omega) (by omega) w hT
def stepW (x : Nd) : List (List UInt8) := if x.op = 10 then [w_null, s_qm] else [wordL x]
structure Gw (B : Nat) (w : World) : Prop where
 gl : GL w
 op : OpT w
 lt : GLt B
 o : 0 < B
theorem Gw.below {B : Nat} {w w' : World} (h : Gw B w) (hb : Below B w w') : Gw B w' := ⟨h.gl.below hb h.lt, h.op.below hb h.o, h.lt, h.o⟩
theorem wordL_len (x : Nd) (hx : NdOk x) : (wordL x).length ≤ 10000 := by
 obtain ⟨op, n, v⟩ := x
 obtain ⟨h1, h2, h3⟩ := hx
 unfold wordL
 simp only
 by_cases e0 : op = 0
 · rw [if_pos e0]
   have := itoa_len n h1
   simp; omega
 · rw [if_neg e0]
   by_cases e1 : op = 1
   · rw [if_pos e1]
     exact Nat.le_trans (text_len v h2 h3) (by omega)
   · rw [if_neg e1]
     by_cases e2 : op < 0 ∨ 11 ≤ op
     · rw [if_pos e2]; simp
     · rw [if_neg e2]
       have : op.toNat = 2 ∨ op.toNat = 3 ∨ op.toNat = 4 ∨ op.toNat = 5 ∨ op.toNat = 6 ∨ op.toNat = 7 ∨ op.toNat = 8 ∨ op.toNat = 9 ∨ op.toNat = 10 := by omega
       rcases this with h | h | h | h | h | h | h | h | h <;> rw [h] <;> decide
theorem Wk.then {B b C : Nat} {u v w : World} (h : Wk B b u v) (k : Below C v w) (hC : v.heap.size ≤ C) (hB : B ≤ v.heap.size) : Wk B b u w :=
 ⟨h.below.trans (k.mono (by omega)), h.other.trans fun i o hi _ _ => (k.block i (Nat.lt_of_lt_of_le (Array.getElem?_eq_some_iff.1 hi).1 hC)).trans hi⟩
theorem WS.from {B b : Nat} {u v w : World} {o : Option (List UInt8)} {e : Ending} (h : Wk B b u v) (s : WS B b v o e w) : WS B b u o e w := by
 cases o with
 | none => exact ⟨s.1, h.trans s.2⟩
 | some l => exact ⟨s.1, s.2.1, s.2.2.1, h.trans s.2.2.2⟩
theorem Ws.new (w : World) (b : Nat) (ws : List (List UInt8)) (cs : Array Value) (hcs : cs = (ws.map fun s => Value.string (ba s)).toArray) (hb : b < w.heap.size) (k : Nat) (hk : k = w.heap.size) : Ws (w.alloc (.cells cs 9)) k b ws := by
 subst hcs hk
 exact ⟨Bk.new w _ _, by omega⟩
set_option maxHeartbeats 4000000 in
theorem step_w (B b : Nat) (l : List UInt8) (x : Nd) (w : World) (hw : Wr w B b l) (hl : l.length ≤ 20000) (hG : Gw B w) (hx : NdOk x) :
 Calls Tryz.prog 172 #[.pointer (some ⟨b, 0, none⟩), x.w] w (WS B b w (addW l (stepW x))) := by
 obtain ⟨S, hS⟩ : ∃ S, WS B b w (addW l (stepW x)) = S := ⟨_, rfl⟩
 rw [hS]
 have HS := Lib.hid hS
 have HW := Lib.hid hw
 have HG := Lib.hid hG
 have Hx := Lib.hid hx
 have HL := Lib.hid hl
 have hbw := hw.lt
 have hBw := hw.le
 clear hS hw hG hx hl
 obtain ⟨op, n, v, m, s⟩ := x
 by_cases h10 : op = 10
 · subst h10
   go_enter Tryz.func172, Tryz.ntmps172
   go_wp2_with fail
   refine (add_c B b (w.heap.size + 1) l [w_null, s_qm] 2 _ ((HW.out.alloc _).alloc _) HL.out (Ws.new (w.alloc _) b [w_null, s_qm] _ rfl (by simp; omega) _ (by simp)) rfl (by omega) (by intro s hs; simp at hs; rcases hs with rfl | rfl <;> decide)).mono ?_
   rintro e w5 hs
   have hs := WS.from (((Wk.refl B b w).alloc hBw _).alloc (by simp; omega) _) hs
   have ho : addW l (stepW ⟨10, n, v, m, s⟩) = addW l [w_null, s_qm] := rfl
   rw [ho] at HS
   clear ho
   cases ho : addW l [w_null, s_qm] with
   | none =>
     rw [ho] at hs HS
     obtain ⟨rfl, hk⟩ := hs
     refine ⟨rfl, ?_⟩
     rw [← HS.out]
     exact ⟨rfl, hk⟩
   | some q =>
     rw [ho] at hs HS
     obtain ⟨rfl, h2⟩ := hs
     have H2 := Lib.hid h2
     clear h2
     go_wp2
     go_end0
     rw [← HS.out]
     exact ⟨rfl, H2.out⟩
 · obtain ⟨y, hy⟩ : ∃ y : Nd, y = ⟨op, n, v, m, s⟩ := ⟨_, rfl⟩
   obtain ⟨t, ht⟩ : ∃ t, wordL ⟨op, n, v, m, s⟩ = t := ⟨_, rfl⟩
   have hto := wordL_len _ Hx.out
   rw [ht] at hto
   have ho : addW l (stepW ⟨op, n, v, m, s⟩) = addW l [t] := by unfold stepW; rw [if_neg h10, ht]
   rw [ho] at HS
   have hR : textR (fun x => ba (wordL x)) [⟨op, n, v, m, s⟩] = ba t := by
    unfold textR
    rw [List.map_cons, List.map_nil, ht]
    simp [Lib.join, ba]
   have Ht := Lib.hid ht
   have Hto := Lib.hid hto
   have HR := Lib.hid hR
   have HE := Lib.hid (fun (u : World) (hu : Below B w u) (A : Addr) (hs : SlG u (some A) 5 rdN [(⟨op, n, v, m, s⟩ : Nd)]) => etext_c (fun x => ba (wordL x)) (some A) 1 1 [⟨op, n, v, m, s⟩] u rfl (by omega) (by omega) hs (by
    rw [List.map_cons, List.map_nil, ht]
    simp [Lib.join, ba]; omega) (fun x hx u2 hu2 => by
     have hx : x = ⟨op, n, v, m, s⟩ := by simpa using hx
     subst hx
     have hg := (HG.out.below hu).below (hu2.mono (Nat.le_trans hBw hu.size))
     exact nword_c _ Hx.out u2 hg.gl.gl hg.op))
   clear hy ho hR ht hto
   go_enter Tryz.func172, Tryz.ntmps172
   go_wp2_with fail
   refine (HE.out _ (((Below.refl B w).alloc hBw _).alloc (by simp; omega) _) ⟨w.heap.size + 1, 0, none⟩ (SlG.newAt (by simp) nOk.len [(⟨op, n, v, m, s⟩ : Nd)] rfl)).mono ?_
   rintro e w5 ⟨rfl, hb5⟩
   rw [HR.out]
   have hb5' : Below (w.heap.size) w w5 := ((below_one w _).trans ((below_one _ _).mono (by simp))).trans (hb5.mono (by simp; omega))
   have hsz5 := hb5'.size
   have HB5 := Lib.hid hb5'
   have HW5 := Lib.hid (HW.out.after hb5')
   have HK5 := Lib.hid ((Wk.refl B b w).then hb5' (Nat.le_refl _) hBw)
   obtain ⟨u, hu⟩ : ∃ u, ba t = u := ⟨_, rfl⟩
   rw [hu]
   have Hu := Lib.hid hu
   clear hb5 hb5' HE hu
   go_wp2_with fail
   refine (add_c B b w5.heap.size l [t] 1 _ (HW5.out.alloc _) HL.out (Ws.new w5 b [t] _ (by rw [← Hu.out]; rfl) (by omega) _ rfl) rfl (by omega) (by intro s hs; simp at hs; subst hs; have := Hto.out; omega)).mono ?_
   rintro e w6 hs
   have hs := WS.from (HK5.out.alloc (by omega) _) hs
   cases ho : addW l [t] with
   | none =>
     rw [ho] at hs HS
     obtain ⟨rfl, hk⟩ := hs
     refine ⟨rfl, ?_⟩
     rw [← HS.out]
     exact ⟨rfl, hk⟩
   | some q =>
     rw [ho] at hs HS
     obtain ⟨rfl, h2⟩ := hs
     have H2 := Lib.hid h2
     clear h2
     go_wp2
     go_end0
     rw [← HS.out]
     exact ⟨rfl, H2.out⟩
theorem addW_app : ∀ (a c : List (List UInt8)) (l : List UInt8), addW l (a ++ c) = (addW l a).bind fun q => addW q c
 | [], c, l => rfl
 | s :: a, c, l => by
   rw [List.cons_append, addW, addW]
   split
   · exact addW_app a c _
   · rfl
def exprW (e : List Nd) : List (List UInt8) := s_lb :: (e.flatMap stepW ++ [s_rb])
set_option maxHeartbeats 4000000 in
theorem expr_w (B b : Nat) (l : List UInt8) (e : List Nd) (A : Option Addr) (n c : Nat) (w : World) (hw : Wr w B b l) (hl : l.length ≤ 20000) (hG : Gw B w) (hx : ∀ x ∈ e, NdOk x) (hn : e.length = n) (hm : n ≤ maxLen) (hs : ∀ u, Below B w u → SlG u A 5 rdN e) :
 Calls Tryz.prog 144 #[.pointer (some ⟨b, 0, none⟩), .slice A n c] w (WS B b w (addW l (exprW e))) := by
 obtain ⟨S, hS⟩ : ∃ S, WS B b w (addW l (exprW e)) = S := ⟨_, rfl⟩
 rw [hS]
 have HS := Lib.hid hS
 have HW := Lib.hid hw
 have HG := Lib.hid hG
 have Hx := Lib.hid hx
 have HL := Lib.hid hl
 have Hn := Lib.hid hn
 have Hs := Lib.hid hs
 have hbw := hw.lt
 have hBw := hw.le
 unfold maxLen at hm
 clear hS hw hG hx hl hn hs
 go_enter Tryz.func144, Tryz.ntmps144
 go_wp2_with fail
 refine (add_c B b w.heap.size l [s_lb] 1 _ (HW.out.alloc _) HL.out (Ws.new w b [s_lb] _ rfl hbw _ rfl) rfl (by omega) (by intro s hs; simp at hs; subst hs; decide)).mono ?_
 rintro en w1 hs1
 have hs1 := WS.from ((Wk.refl B b w).alloc hBw _) hs1
 have ho : addW l (exprW e) = (addW l [s_lb]).bind fun q => addW q (e.flatMap stepW ++ [s_rb]) := addW_app [s_lb] _ l
 cases h1 : addW l [s_lb] with
 | none =>
   rw [h1] at hs1 ho
   obtain ⟨rfl, hk⟩ := hs1
   refine ⟨rfl, ?_⟩
   rw [← HS.out, ho]
   exact ⟨rfl, hk⟩
 | some l1 =>
   rw [h1] at hs1 ho
   obtain ⟨rfl, hw1, hl1, hk1⟩ := hs1
   have Ho := Lib.hid ho
   have HW1 := Lib.hid hw1
   have HL1 := Lib.hid hl1
   have HK1 := Lib.hid hk1
   clear h1 ho hw1 hl1 hk1 HW
   go_wp2_with fail
   go_loopw [11] (fun i wr => ∃ (k : Nat) (lc : List UInt8), k ≤ n ∧ i = .int .i64 k ∧ Hid (Wr wr B b lc) ∧ Hid (lc.length ≤ 20000) ∧ Hid (Wk B b w wr) ∧ Hid (addW l (exprW e) = addW lc ((e.drop k).flatMap stepW ++ [s_rb]))) (fun i _ => n - (intOf i).toNat)
   case atStart => exact ⟨0, l1, Nat.zero_le _, rfl, HW1, HL1, HK1, Ho⟩
   case round =>
    obtain ⟨k, lc, hk, rfl, hwr, hlc, hkr, he⟩ := hrel
    have hbr := hwr.out.lt
    have hBr := hwr.out.le
    by_cases hlt : k < n
    · obtain ⟨x, hx⟩ : ∃ x, e[k]? = some x := ⟨_, List.getElem?_eq_getElem (by rw [Hn.out]; exact hlt)⟩
      have hsr := Hs.out wr hkr.out.below
      obtain ⟨c2, off, hA, hc2, hcell⟩ : ∃ c2 off, A = some ⟨c2, off, none⟩ ∧ c2 < wr.heap.size ∧ ∀ i x, e[i]? = some x → ∀ j u, (rdN x)[j]? = some u → wr.cell? ⟨c2, off + i * 5 + j, none⟩ = some u := by
       rcases hsr with h | h
       · rw [h] at hx; simp at hx
       · exact h
      subst hA
      have d0 := hcell k x hx 0 _ rfl
      have d1 := hcell k x hx 1 _ rfl
      have d2 := hcell k x hx 2 _ rfl
      have d3 := hcell k x hx 3 _ rfl
      have d4 := hcell k x hx 4 _ rfl
      simp only [Nat.add_zero] at d0
      have hok := Hx.out x (List.mem_of_getElem? hx)
      have hdr : e.drop k = x :: e.drop (k + 1) := by
       rw [List.drop_eq_getElem_cons (by rw [Hn.out]; exact hlt)]
       congr 1
       rw [List.getElem?_eq_getElem (by rw [Hn.out]; exact hlt)] at hx
       exact Option.some.inj hx
      have he2 := he.out
      rw [hdr, List.flatMap_cons, List.append_assoc, addW_app] at he2
      have He2 := Lib.hid he2
      have Hok := Lib.hid hok
      clear hcell hsr hx hdr he he2 hok
      go_wp2_with fail
      refine (step_w B b lc x _ (hwr.out.alloc _) hlc.out ((HG.out.below hkr.out.below).below ((Below.refl B wr).alloc hBr _)) Hok.out).mono ?_
      rintro en w5 hs5
      have hs5 := WS.from (hkr.out.alloc hBr _) hs5
      cases h5 : addW lc (stepW x) with
      | none =>
        have he5 := He2.out
        rw [h5] at hs5 he5
        obtain ⟨rfl, hk5⟩ := hs5
        refine ⟨rfl, ?_⟩
        rw [← HS.out, he5]
        exact ⟨rfl, hk5⟩
      | some l5 =>
        have he5 := He2.out
        rw [h5] at hs5 he5
        obtain ⟨rfl, hw5, hl5, hk5⟩ := hs5
        have HW5 := Lib.hid hw5
        have HL5 := Lib.hid hl5
        have HK5 := Lib.hid hk5
        have He5 := Lib.hid he5
        clear h5 hw5 hl5 hk5 he5 He2 d0 d1 d2 d3 d4
        go_wp2_with fail
        go_roundw
        case rel => exact ⟨k + 1, l5, hlt, by simp, HW5, HL5, HK5, He5⟩
        case measure => simp [intOf]; omega
    · obtain rfl : k = n := by omega
      have he2 := he.out
      rw [List.drop_eq_nil_of_le (by rw [Hn.out]; exact Nat.le_refl _), List.flatMap_nil, List.nil_append] at he2
      have He2 := Lib.hid he2
      clear he he2
      go_wp2_with fail
      refine (add_c B b wr.heap.size lc [s_rb] 1 _ (hwr.out.alloc _) hlc.out (Ws.new wr b [s_rb] _ rfl hbr _ rfl) rfl (by omega) (by intro s hs; simp at hs; subst hs; decide)).mono ?_
      rintro en w6 hs6
      have hs6 := WS.from (hkr.out.alloc hBr _) hs6
      rw [← He2.out, HS.out] at hs6
      have H6 := hs6
      rw [← HS.out] at hs6
      cases h6 : addW l (exprW e) with
      | none =>
        rw [h6] at hs6
        obtain ⟨rfl, hk6⟩ := hs6
        exact ⟨rfl, H6⟩
      | some l6 =>
        rw [h6] at hs6
        obtain ⟨rfl, h6b⟩ := hs6
        have HH6 := Lib.hid H6
        clear h6 h6b H6
        go_wp2
        go_end0
        exact HH6.out
set_option maxHeartbeats 4000000 in
theorem number_w (B b : Nat) (l : List UInt8) (n : Int) (w : World) (hw : Wr w B b l) (hl : l.length ≤ 20000) (hG : Gw B w) (hn : -9223372036854775808 ≤ n ∧ n ≤ 9223372036854775807) :
 Calls Tryz.prog 147 #[.pointer (some ⟨b, 0, none⟩), .int .i64 n] w (WS B b w (addW l [Lib.itoa n])) := by
 have hln := itoa_len n hn
 have HI := Lib.hid (Tryz.strconv_Itoa n hn.1 hn.2 w hG.gl.gl.tab)
 obtain ⟨t, ht⟩ : ∃ t, Lib.itoa n = t := ⟨_, rfl⟩
 rw [ht] at HI hln ⊢
 obtain ⟨S, hS⟩ : ∃ S, WS B b w (addW l [t]) = S := ⟨_, rfl⟩
 rw [hS]
 obtain ⟨u, hu⟩ : ∃ u : ByteArray, (⟨t.toArray⟩ : ByteArray) = u := ⟨_, rfl⟩
 rw [hu] at HI
 have Hu := Lib.hid (show ba t = u from hu)
 have HS := Lib.hid hS
 have HW := Lib.hid hw
 have HL := Lib.hid hl
 have Hln := Lib.hid hln
 have hbw := hw.lt
 have hBw := hw.le
 clear hS hw hG hl ht hu hln
 go_enter Tryz.func147, Tryz.ntmps147
 go_wp2_with fail
 refine HI.out.mono ?_
 rintro e w1 ⟨rfl, k, os, hw1⟩
 have hb1 : Below w.heap.size w w1 := by rw [hw1]; exact below_grow _ k os
 have hz1 := hb1.size
 have HW1 := Lib.hid (HW.out.after hb1)
 have HK1 := Lib.hid ((Wk.refl B b w).then hb1 (Nat.le_refl _) hBw)
 clear hw1 hb1 HI
 go_wp2_with fail
 refine (add_c B b w1.heap.size l [t] 1 _ (HW1.out.alloc _) HL.out (Ws.new w1 b [t] _ (by rw [← Hu.out]; rfl) (by omega) _ rfl) rfl (by omega) (by intro s hs; simp at hs; subst hs; have := Hln.out; omega)).mono ?_
 rintro e w6 hs
 have hs := WS.from (HK1.out.alloc (by omega) _) hs
 have H6 := hs
 rw [HS.out] at H6
 cases ho : addW l [t] with
 | none =>
   rw [ho] at hs
   obtain ⟨rfl, hk⟩ := hs
   exact ⟨rfl, H6⟩
 | some q =>
   rw [ho] at hs
   obtain ⟨rfl, h2⟩ := hs
   have HH := Lib.hid H6
   clear h2 H6
   go_wp2
   go_end0
   exact HH.out
def chW (a : Int) (ws : List (List UInt8)) : Option (List (List UInt8)) := if 0 ≤ a ∧ a < ws.length then some [ws.getD a.toNat []] else none
theorem WS.out {B b : Nat} {w w' : World} {o : Option (List UInt8)} {e : Ending} {S : Ending → World → Prop} (h : WS B b w o e w') (hS : WS B b w o = S) : (e = .panicked (boom 70) ∧ S (.panicked (boom 70)) w') ∨ (e = .returned (.tuple #[]) ∧ S (.returned (.tuple #[])) w') := by
 subst hS
 have h2 := h
 cases o with
 | none => obtain ⟨rfl, _⟩ := h2; exact .inl ⟨rfl, h⟩
 | some q => obtain ⟨rfl, _⟩ := h2; exact .inr ⟨rfl, h⟩
set_option maxHeartbeats 4000000 in
theorem choice_w (B b k0 : Nat) (l : List UInt8) (a : Int) (ws : List (List UInt8)) (nw : Nat) (w : World) (hw : Wr w B b l) (hl : l.length ≤ 20000) (hW : Ws w k0 b ws) (hnw : ws.length = nw) (hmw : nw ≤ 1000) (hsm : ∀ s ∈ ws, s.length ≤ 1000) :
 Calls Tryz.prog 130 #[.pointer (some ⟨b, 0, none⟩), .int .i64 a, .slice (some ⟨k0, 0, none⟩) nw nw] w (WS B b w ((chW a ws).bind (addW l))) := by
 obtain ⟨S, hS⟩ : ∃ S, WS B b w ((chW a ws).bind (addW l)) = S := ⟨_, rfl⟩
 rw [hS]
 have HS := Lib.hid hS
 have HW := Lib.hid hw
 have HL := Lib.hid hl
 have HWs := Lib.hid hW
 have Hn := Lib.hid hnw
 have Hsm := Lib.hid hsm
 have hbw := hw.lt
 have hBw := hw.le
 clear hS hw hl hW hnw hsm
 by_cases h0 : a < 0
 · have hd : decide (a ≥ 0) = false := by simp; omega
   have ho : chW a ws = none := by unfold chW; rw [if_neg (by omega)]
   rw [ho] at HS
   clear ho
   go_enter Tryz.func130, Tryz.ntmps130
   go_wp2_with fail
   refine (req_c _ _).mono ?_
   rintro e w6 ⟨rfl, hw9⟩
   obtain rfl := hw9.symm
   refine ⟨rfl, ?_⟩
   rw [← HS.out]
   exact ⟨rfl, Wk.refl B b w⟩
 · obtain ⟨i, rfl⟩ : ∃ i : Nat, a = i := ⟨a.toNat, by omega⟩
   clear h0
   have h0 : ((i : Int) ≥ 0) := by omega
   by_cases hlt : i < nw
   · obtain ⟨s, hs⟩ : ∃ s, ws[i]? = some s := ⟨_, List.getElem?_eq_getElem (by rw [Hn.out]; exact hlt)⟩
     have ho : chW (i : Int) ws = some [s] := by
      unfold chW
      rw [if_pos ⟨by omega, by rw [Hn.out]; omega⟩, Int.toNat_natCast, List.getD_eq_getElem?_getD, hs]
      rfl
     rw [ho] at HS
     have d := HWs.out.cell hs
     obtain ⟨u, hu⟩ : ∃ u, ba s = u := ⟨_, rfl⟩
     rw [hu] at d
     have Hu := Lib.hid hu
     have Hl := Lib.hid (Hsm.out s (List.mem_of_getElem? hs))
     clear ho hs hu
     go_enter Tryz.func130, Tryz.ntmps130
     go_wp2_with fail
     refine (req_c _ _).mono ?_
     rintro e w6 ⟨rfl, hw9⟩
     obtain rfl := hw9.symm
     simp only [if_true]
     go_wp2_with fail
     refine (add_c B b w.heap.size l [s] 1 _ (HW.out.alloc _) HL.out (Ws.new w b [s] _ (by rw [← Hu.out]; rfl) hbw _ rfl) rfl (by omega) (by intro s hs; simp at hs; subst hs; have := Hl.out; omega)).mono ?_
     rintro e w7 hs
     rcases (WS.from ((Wk.refl B b w).alloc hBw _) hs).out HS.out with ⟨rfl, h⟩ | ⟨rfl, h⟩
     · exact ⟨rfl, h⟩
     · have HH := Lib.hid h
       clear h hs
       go_wp2
       go_end0
       exact HH.out
   · have hd : decide ((i : Int) < nw) = false := by simp; omega
     have ho : chW (i : Int) ws = none := by unfold chW; rw [if_neg (by rw [Hn.out]; omega)]
     rw [ho] at HS
     clear ho
     go_enter Tryz.func130, Tryz.ntmps130
     go_wp2_with fail
     refine (req_c _ _).mono ?_
     rintro e w6 ⟨rfl, hw9⟩
     obtain rfl := hw9.symm
     refine ⟨rfl, ?_⟩
     rw [← HS.out]
     exact ⟨rfl, Wk.refl B b w⟩
def catW (o p : Option (List (List UInt8))) : Option (List (List UInt8)) := o.bind fun x => p.map fun y => x ++ y
theorem catW_add (o p : Option (List (List UInt8))) (l : List UInt8) : (catW o p).bind (addW l) = (o.bind (addW l)).bind fun q => p.bind (addW q) := by
 cases o with
 | none => rfl
 | some x =>
   cases p with
   | none => simp [catW]
   | some y => simp [catW, addW_app]
def tailW {α : Type} (f : α → Option (List (List UInt8))) : List α → Option (List (List UInt8))
 | [] => some []
 | a :: r => catW (some [s_cm]) (catW (f a) (tailW f r))
def listW {α : Type} (f : α → Option (List (List UInt8))) : List α → Option (List (List UInt8))
 | [] => some []
 | a :: r => catW (f a) (tailW f r)
def restW {α : Type} (f : α → Option (List (List UInt8))) (k : Nat) (xs : List α) : Option (List (List UInt8)) := if k = 0 then listW f xs else tailW f xs
set_option maxHeartbeats 8000000 in
theorem list_w {α : Type} (f : α → Option (List (List UInt8))) (xs : List α) (B b : Nat) (F : Nat) (p1 p2 : Value) (l : List UInt8) (n : Nat) (w : World) (hw : Wr w B b l) (hl : l.length ≤ 20000) (hn : xs.length = n) (hm : n ≤ maxLen)
 (hit : ∀ (k : Nat) (a : α) (u : World) (lc : List UInt8), xs[k]? = some a → Wk B b w u → Wr u B b lc → lc.length ≤ 20000 → Calls Tryz.prog F #[.int .i64 k, p1, p2] u (WS B b u ((f a).bind (addW lc))))
 (hF : ∀ (u : World) (k : Nat), (callFunc F #[.int .i64 k, p1, p2]).run Tryz.prog u = .ok (.enter F #[.int .i64 k, p1, p2]) u) :
 Calls Tryz.prog 141 #[.pointer (some ⟨b, 0, none⟩), .int .i64 n, .func (.func F) #[] #[p1, p2]] w (WS B b w ((listW f xs).bind (addW l))) := by
 obtain ⟨S, hS⟩ : ∃ S, WS B b w ((listW f xs).bind (addW l)) = S := ⟨_, rfl⟩
 rw [hS]
 have HS := Lib.hid hS
 have Hit := Lib.hid hit
 have HW := Lib.hid hw
 have HL := Lib.hid hl
 have Hn := Lib.hid hn
 have hbw := hw.lt
 have hBw := hw.le
 unfold maxLen at hm
 clear hS hit hw hl hn
 go_enter Tryz.func141, Tryz.ntmps141
 go_wp2_with fail
 go_loopw [8] (fun i wr => ∃ (k : Nat) (lc : List UInt8), k ≤ n ∧ i = .int .i64 k ∧ Hid (Wr wr B b lc) ∧ Hid (lc.length ≤ 20000) ∧ Hid (Wk B b w wr) ∧ Hid ((listW f xs).bind (addW l) = (restW f k (xs.drop k)).bind (addW lc))) (fun i _ => n - (intOf i).toNat)
 case atStart => exact ⟨0, l, Nat.zero_le _, rfl, HW, HL, Lib.hid (Wk.refl B b _), Lib.hid rfl⟩
 case round =>
  obtain ⟨k, lc, hk, rfl, hwr, hlc, hkr, he⟩ := hrel
  have hbr := hwr.out.lt
  have hBr := hwr.out.le
  by_cases hlt : k < n
  · obtain ⟨a, ha⟩ : ∃ a, xs[k]? = some a := ⟨_, List.getElem?_eq_getElem (by rw [Hn.out]; exact hlt)⟩
    have hdr : xs.drop k = a :: xs.drop (k + 1) := by
     rw [List.drop_eq_getElem_cons (by rw [Hn.out]; exact hlt)]
     congr 1
     rw [List.getElem?_eq_getElem (by rw [Hn.out]; exact hlt)] at ha
     exact Option.some.inj ha
    have he2 := he.out
    rw [hdr] at he2
    have Ha := Lib.hid ha
    clear hdr he ha
    by_cases hk0 : k = 0
    · subst hk0
      have he3 : (listW f xs).bind (addW l) = ((f a).bind (addW lc)).bind fun q => (tailW f (xs.drop 1)).bind (addW q) := he2.trans (catW_add _ _ _)
      have He := Lib.hid he3
      clear he2 he3
      have hF0 : (callFunc F #[.int .i64 0, p1, p2]).run Tryz.prog wr = .ok (.enter F #[.int .i64 0, p1, p2]) wr := hF wr 0
      go_wp2_with fail
      refine (Hit.out 0 a wr lc Ha.out hkr.out hwr.out hlc.out).mono ?_
      rintro e w5 hs
      have hs5 := WS.from hkr.out hs
      cases h5 : (f a).bind (addW lc) with
      | none =>
        have he5 := He.out
        rw [h5] at hs5 he5
        obtain ⟨rfl, hk5⟩ := hs5
        refine ⟨rfl, ?_⟩
        rw [← HS.out, he5]
        exact ⟨rfl, hk5⟩
      | some l5 =>
        have he5 := He.out
        rw [h5] at hs5 he5
        obtain ⟨rfl, hw5, hl5, hk5⟩ := hs5
        have HW5 := Lib.hid hw5
        have HL5 := Lib.hid hl5
        have HK5 := Lib.hid hk5
        have He5 : Hid ((listW f xs).bind (addW l) = (restW f (0 + 1) (xs.drop (0 + 1))).bind (addW l5)) := Lib.hid (he5.trans (by unfold restW; rw [if_neg (by omega)]; rfl))
        clear h5 hw5 hl5 hk5 he5 He hs hF0
        go_wp2_with fail
        go_roundw
        case rel => exact ⟨0 + 1, l5, hlt, by simp, HW5, HL5, HK5, He5⟩
        case measure => simp [intOf]; omega
    · have he3 : (listW f xs).bind (addW l) = (addW lc [s_cm]).bind fun q => (catW (f a) (tailW f (xs.drop (k + 1)))).bind (addW q) := by
       rw [he2]
       unfold restW
       rw [if_neg hk0, tailW, catW_add]
       rfl
      have He3 := Lib.hid he3
      have hk1 : ((k : Int) > 0) := by omega
      clear he2 he3
      go_wp2_with fail
      refine (add_c B b wr.heap.size lc [s_cm] 1 _ (hwr.out.alloc _) hlc.out (Ws.new wr b [s_cm] _ rfl hbr _ rfl) rfl (by omega) (by intro s hs; simp at hs; subst hs; decide)).mono ?_
      rintro e w3 hs
      have hs3 := WS.from (hkr.out.alloc hBr _) hs
      clear hs
      cases h3 : addW lc [s_cm] with
      | none =>
        have he4 := He3.out
        rw [h3] at hs3 he4
        obtain ⟨rfl, hk5⟩ := hs3
        refine ⟨rfl, ?_⟩
        rw [← HS.out, he4]
        exact ⟨rfl, hk5⟩
      | some l1 =>
        have he4 := He3.out
        rw [h3] at hs3 he4
        obtain ⟨rfl, hw3, hl3, hk3⟩ := hs3
        have he5 : (listW f xs).bind (addW l) = ((f a).bind (addW l1)).bind fun q => (tailW f (xs.drop (k + 1))).bind (addW q) := he4.trans (catW_add _ _ _)
        have He := Lib.hid he5
        have HW3 := Lib.hid hw3
        have HL3 := Lib.hid hl3
        have hk1 := Lib.hid hk3
        have hF0 := hF w3 k
        clear h3 he4 he5 hw3 hl3 hk3 He3
        go_wp2_with fail
        refine (Hit.out k a w3 l1 Ha.out hk1.out HW3.out HL3.out).mono ?_
        rintro e w5 hs
        have hs5 := WS.from hk1.out hs
        cases h5 : (f a).bind (addW l1) with
        | none =>
          have he5 := He.out
          rw [h5] at hs5 he5
          obtain ⟨rfl, hk5⟩ := hs5
          refine ⟨rfl, ?_⟩
          rw [← HS.out, he5]
          exact ⟨rfl, hk5⟩
        | some l5 =>
          have he5 := He.out
          rw [h5] at hs5 he5
          obtain ⟨rfl, hw5, hl5, hk5⟩ := hs5
          have HW5 := Lib.hid hw5
          have HL5 := Lib.hid hl5
          have HK5 := Lib.hid hk5
          have He5 : Hid ((listW f xs).bind (addW l) = (restW f (k + 1) (xs.drop (k + 1))).bind (addW l5)) := Lib.hid (he5.trans (by unfold restW; rw [if_neg (by omega)]; rfl))
          clear h5 hw5 hl5 hk5 he5 He hs hF0
          go_wp2_with fail
          go_roundw
          case rel => exact ⟨k + 1, l5, hlt, by simp, HW5, HL5, HK5, He5⟩
          case measure => simp [intOf]; omega
  · obtain rfl : k = n := by omega
    have he2 := he.out
    rw [List.drop_eq_nil_of_le (by rw [Hn.out]; exact Nat.le_refl _)] at he2
    have he3 : (listW f xs).bind (addW l) = some lc := by rw [he2]; unfold restW; split <;> rfl
    have He := Lib.hid he3
    clear he he2 he3
    go_wp2
    go_end0
    rw [← HS.out, He.out]
    exact ⟨rfl, hwr.out, hlc.out, hkr.out⟩
def fnWs : List (List UInt8) := [w_count, w_sum, w_min, w_max]
def kdWs : List (List UInt8) := [w_bool, w_int, w_text]
def acWs : List (List UInt8) := [w_restrict, w_cascade, w_setnull]
def agW (a : Ag) : Option (List (List UInt8)) := catW (chW a.fn fnWs) (some (if a.fn = 0 then [] else [Lib.itoa a.col]))
theorem WS.yes {B b : Nat} {u w w' : World} {o : Option (List UInt8)} {e : Ending} (k : Wk B b u w) (h : WS B b w o e w') : (e = .panicked (boom 70) ∧ o = none ∧ Wk B b u w') ∨ (e = .returned (.tuple #[]) ∧ ∃ q, o = some q ∧ Wr w' B b q ∧ q.length ≤ 20000 ∧ Wk B b u w') := by
 cases o with
 | none => exact .inl ⟨h.1, rfl, k.trans h.2⟩
 | some q => exact .inr ⟨h.1, q, rfl, h.2.1, h.2.2.1, k.trans h.2.2.2⟩
theorem Bk.alloc {w : World} {b : Nat} {cs : Array Value} {T : TypeId} (h : Bk w b cs T) (o : Obj) : Bk (w.alloc o) b cs T := h.after (below_one w o) h.lt
set_option maxHeartbeats 4000000 in
theorem agg_w (B b : Nat) (l : List UInt8) (a : Ag) (w : World) (hw : Wr w B b l) (hl : l.length ≤ 20000) (hG : Gw B w) (ha : -9223372036854775808 ≤ a.col ∧ a.col ≤ 9223372036854775807) :
 Calls Tryz.prog 149 #[.pointer (some ⟨b, 0, none⟩), a.w] w (WS B b w ((agW a).bind (addW l))) := by
 obtain ⟨S, hS⟩ : ∃ S, WS B b w ((agW a).bind (addW l)) = S := ⟨_, rfl⟩
 rw [hS]
 unfold agW at hS
 rw [catW_add] at hS
 have HS := Lib.hid hS
 have HW := Lib.hid hw
 have HL := Lib.hid hl
 have HG := Lib.hid hG
 have Ha := Lib.hid ha
 have hbw := hw.lt
 have hBw := hw.le
 obtain ⟨fn, col⟩ := a
 simp only at ha Ha HS
 clear hS hw hl hG ha
 go_enter Tryz.func149, Tryz.ntmps149
 go_wp2_with fail
 go_region_law (first
  | (refine step_callO rfl 174 #[] (by kernel_rfl) (.slice (some ⟨w.heap.size + 1, 0, none⟩) 4 4) (fun w' => w' = wdN (w.alloc (.cells #[.int .i64 fn, .int .i64 col] 73)).drew fnWs) ((fns_c _).mono ?_) ?_
     · rintro e w5 ⟨rfl, rfl⟩
       exact .inl ⟨by simp, rfl⟩
     rintro w5 rfl)
  | (refine step_callO rfl 130 #[.pointer (some ⟨b, 0, none⟩), .int .i64 fn, .slice (some ⟨w.heap.size + 1, 0, none⟩) 4 4] (by kernel_rfl) (.tuple #[]) (fun w' => ∃ q, (chW fn fnWs).bind (addW l) = some q ∧ Wr w' B b q ∧ q.length ≤ 20000 ∧ Wk B b w w' ∧ Bk w' w.heap.size #[.int .i64 fn, .int .i64 col] 73) ((choice_w B b (w.heap.size + 1) l fn fnWs 4 (wdN (w.alloc (.cells #[.int .i64 fn, .int .i64 col] 73)).drew fnWs) ((HW.out.alloc _).drew.alloc _) HL.out (Ws.new (w.alloc (.cells #[.int .i64 fn, .int .i64 col] 73)).drew b fnWs _ rfl (by simp; omega) _ (by first | rfl | simp)) rfl (by omega) (by intro s hs; simp [fnWs] at hs; rcases hs with rfl | rfl | rfl | rfl <;> decide)).mono ?_) ?_
     · intro e w6 hs
       have hk : Wk B b w (wdN (w.alloc (.cells #[.int .i64 fn, .int .i64 col] 73)).drew fnWs) := ((Wk.refl B b w).alloc hBw _).drew.alloc (by simp; omega) _
       have hbk : Bk (wdN (w.alloc (.cells #[.int .i64 fn, .int .i64 col] 73)).drew fnWs) w.heap.size #[.int .i64 fn, .int .i64 col] 73 := (Bk.new w _ _).drew.alloc _
       rcases WS.yes (Wk.refl B b _) hs with ⟨rfl, h1, h2⟩ | ⟨rfl, q, h1, h2, h3, h4⟩
       · refine .inr ⟨_, rfl, rfl, ?_⟩
         rw [← HS.out, h1]
         exact ⟨rfl, hk.trans h2⟩
       · exact .inl ⟨rfl, q, h1, h2, h3, hk.trans h4, h4.bk hbk (by omega) (by decide)⟩
     rintro w6 ⟨q, h1, h2, h3, h4, hbk⟩
     have H1 := Lib.hid h1
     have H2 := Lib.hid h2
     have H3 := Lib.hid h3
     have H4 := Lib.hid h4
     have HB := Lib.hid hbk
     have c0 : w6.cell? ⟨w.heap.size, 0, none⟩ = some (.int .i64 fn) := hbk.cell 0
     have c1 : w6.cell? ⟨w.heap.size, 1, none⟩ = some (.int .i64 col) := hbk.cell 1
     clear h1 h2 h3 h4 hbk))
 all_goals
  by_cases h0 : fn = 0
  · have hSS : WS B b w (some q) = S := by rw [← HS.out, H1.out, Option.bind_some, if_pos h0]; rfl
    subst h0
    go_wp2
    go_end0
    rw [← hSS]
    exact ⟨rfl, H2.out, H3.out, H4.out⟩
  · have hSS : WS B b w (addW q [Lib.itoa col]) = S := by rw [← HS.out, H1.out, Option.bind_some, if_neg h0]; rfl
    have HSS := Lib.hid hSS
    clear hSS
    go_wp2_with fail
    refine (number_w B b q col w6 H2.out H3.out (HG.out.below H4.out.below) Ha.out).mono ?_
    rintro e w7 hs
    rcases (WS.from H4.out hs).out HSS.out with ⟨rfl, h⟩ | ⟨rfl, h⟩
    · exact ⟨rfl, h⟩
    · have HH := Lib.hid h
      clear h hs
      go_wp2
      go_end0
      exact HH.out
theorem ba_back (s : ByteArray) : ba s.data.toList = s := by
 cases s
 simp [ba]
theorem size_zero {s : ByteArray} (h : s.size = 0) : s = emp := by
 have : s.data = #[] := Array.eq_empty_of_size_eq_zero h
 cases s
 simp at this
 rw [this]
theorem size_ne {s : ByteArray} (h : ¬ s.size = 0) : s.toList.isEmpty = false := by
 rw [ByteArray.toList_eq]
 cases e : s.data.toList with
 | nil => exact absurd (show s.data.size = 0 by rw [← Array.length_toList, e]; rfl) h
 | cons a r => rfl
theorem size_eq {s : ByteArray} (h : s.size = 0) : s.toList.isEmpty = true := by
 rw [ByteArray.toList_eq, size_zero h]
 rfl
def refW (rf : ByteArray) (ac : Int) : Option (List (List UInt8)) := if rf.size = 0 then some [] else catW (some [w_ref, rf.data.toList]) (chW ac acWs)
def uniW (uni : Bool) (rf : ByteArray) (ac : Int) : Option (List (List UInt8)) := catW (some (if uni then [w_unique] else [])) (refW rf ac)
def nulW (nul uni : Bool) (rf : ByteArray) (ac : Int) : Option (List (List UInt8)) := catW (some (if nul then [w_null] else [])) (uniW uni rf ac)
def clW (c : Cl) : Option (List (List UInt8)) := catW (some [c.name.data.toList]) (catW (chW (IntKind.i64.wrap (c.kind - 1)) kdWs) (nulW c.nul c.uni c.ref c.act))
set_option maxHeartbeats 16000000 in
theorem column_w (B b : Nat) (l : List UInt8) (c : Cl) (w : World) (hw : Wr w B b l) (hl : l.length ≤ 20000) (hn : c.name.size ≤ 4611686018427387904) (hr : c.ref.size ≤ 4611686018427387904) :
 Calls Tryz.prog 143 #[.pointer (some ⟨b, 0, none⟩), c.w] w (WS B b w ((clW c).bind (addW l))) := by
 obtain ⟨S, hS⟩ : ∃ S, WS B b w ((clW c).bind (addW l)) = S := ⟨_, rfl⟩
 rw [hS]
 unfold clW at hS
 obtain ⟨nm, kd, nul, uni, rf, ac⟩ := c
 simp only at hn hr hS
 have hwl := hw.lt
 have hwB := hw.le
 obtain ⟨w0, hw0⟩ : ∃ w0, w.alloc (.cells #[.string nm, .int .i64 kd, .bool nul, .bool uni, .string rf, .int .i64 ac] 41) = w0 := ⟨_, rfl⟩
 have hne : w.heap.size ≠ b := by omega
 have hsz0 : w0.heap.size = w.heap.size + 1 := by rw [← hw0]; simp
 have HW0 : Hid (Wr w0 B b l) := Lib.hid (by rw [← hw0]; exact hw.alloc _)
 have HK0 : Hid (Wk B b w w0) := Lib.hid (by rw [← hw0]; exact (Wk.refl B b w).alloc hwB _)
 have HB0 : Hid (Bk w0 w.heap.size #[.string nm, .int .i64 kd, .bool nul, .bool uni, .string rf, .int .i64 ac] 41) := Lib.hid (by rw [← hw0]; exact Bk.new w _ _)
 have HE0 := Lib.hid hS
 have HL0 := Lib.hid hl
 have hb0 := HW0.out.lt
 have hB0 := HW0.out.le
 have hC0 := HB0.out.lt
 have Hn := Lib.hid hn
 have Hr := Lib.hid hr
 clear hS hw hl hn hr
 go_enter Tryz.func143, Tryz.ntmps143
 have d00 : w0.cell? ⟨w.heap.size, 0, none⟩ = some (.string nm) := HB0.out.cell 0
 go_wp2_with fail
 rw [← hsz0]
 refine (add_c B b w0.heap.size l [nm.data.toList] 1 _ (HW0.out.alloc _) HL0.out (Ws.new w0 b [nm.data.toList] _ (by rw [List.map_cons, List.map_nil, ba_back]) hb0 _ rfl) rfl (by omega) (by intro s hs; simp only [List.mem_singleton] at hs; subst hs; exact Hn.out)).mono ?_
 rintro e w1 hs
 rcases WS.yes (Wk.refl B b _) hs with ⟨rfl, h1, h2⟩ | ⟨rfl, l1, h1, h2, h3, h4⟩
 · refine ⟨rfl, ?_⟩
   rw [← HE0.out, catW_add, show (some [nm.data.toList]).bind (addW l) = none from h1]
   exact ⟨rfl, (HK0.out.alloc hB0 _).trans h2⟩
 · have he := HE0.out
   rw [catW_add, show (some [nm.data.toList]).bind (addW l) = some l1 from h1] at he
   have HE1 := Lib.hid (show WS B b w (Option.bind (catW (chW (IntKind.i64.wrap (kd - 1)) kdWs) (nulW nul uni rf ac)) (addW l1)) = S from he)
   clear he
   have HW1 := Lib.hid h2
   have HL1 := Lib.hid h3
   have HK1 := Lib.hid ((HK0.out.alloc hB0 _).trans h4)
   have HB1 := Lib.hid (h4.bk (HB0.out.alloc _) hne (by decide))
   have hb1 := h2.lt
   have hB1 := h2.le
   have hC1 := HB1.out.lt
   have d01 : w1.cell? ⟨w.heap.size, 0, none⟩ = some (.string nm) := HB1.out.cell 0
   have d11 : w1.cell? ⟨w.heap.size, 1, none⟩ = some (.int .i64 kd) := HB1.out.cell 1
   have d21 : w1.cell? ⟨w.heap.size, 2, none⟩ = some (.bool nul) := HB1.out.cell 2
   have d31 : w1.cell? ⟨w.heap.size, 3, none⟩ = some (.bool uni) := HB1.out.cell 3
   have d41 : w1.cell? ⟨w.heap.size, 4, none⟩ = some (.string rf) := HB1.out.cell 4
   have d51 : w1.cell? ⟨w.heap.size, 5, none⟩ = some (.int .i64 ac) := HB1.out.cell 5
   clear h1 h2 h3 h4 hs
   clear hw0 hsz0 HB0 HE0 HW0 HL0 HK0
   go_wp2_with fail
   go_region_law (first
    | (refine step_callO rfl 170 #[] (by kernel_rfl) (.slice (some ⟨w1.heap.size, 0, none⟩) 3 3) (fun w' => w' = wdN w1.drew kdWs) ((kinds_c _).mono ?_) ?_
       · rintro e w5 ⟨rfl, rfl⟩
         exact .inl ⟨by first | rfl | simp, rfl⟩
       rintro w5 rfl)
    | (refine step_callO rfl 130 #[.pointer (some ⟨b, 0, none⟩), .int .i64 (IntKind.i64.wrap (kd - 1)), .slice (some ⟨w1.heap.size, 0, none⟩) 3 3] (by first | kernel_rfl | rfl) (.tuple #[]) (fun w' => ∃ q, (chW (IntKind.i64.wrap (kd - 1)) kdWs).bind (addW l1) = some q ∧ Wr w' B b q ∧ q.length ≤ 20000 ∧ Wk B b w w' ∧ Bk w' w.heap.size #[.string nm, .int .i64 kd, .bool nul, .bool uni, .string rf, .int .i64 ac] 41) ((choice_w B b w1.heap.size l1 (IntKind.i64.wrap (kd - 1)) kdWs 3 (wdN w1.drew kdWs) (HW1.out.drew.alloc _) HL1.out (Ws.new w1.drew b kdWs _ rfl hb1 _ (by first | rfl | simp)) rfl (by omega) (by intro s hs; simp [kdWs] at hs; rcases hs with rfl | rfl | rfl <;> decide)).mono ?_) ?_
       · intro e w6 hs
         have hk : Wk B b w (wdN w1.drew kdWs) := HK1.out.drew.alloc hB1 _
         have hbk : Bk (wdN w1.drew kdWs) w.heap.size #[.string nm, .int .i64 kd, .bool nul, .bool uni, .string rf, .int .i64 ac] 41 := HB1.out.drew.alloc _
         rcases WS.yes (Wk.refl B b _) hs with ⟨rfl, h1, h2⟩ | ⟨rfl, q, h1, h2, h3, h4⟩
         · refine .inr ⟨_, rfl, rfl, ?_⟩
           rw [← HE1.out, catW_add, h1]
           exact ⟨rfl, hk.trans h2⟩
         · exact .inl ⟨rfl, q, h1, h2, h3, hk.trans h4, h4.bk hbk hne (by decide)⟩
       rintro w2 ⟨l2, h1, h2, h3, h4, hbk⟩
       have H12 := Lib.hid h1
       have HW2 := Lib.hid h2
       have HL2 := Lib.hid h3
       have HK2 := Lib.hid h4
       have HB2 := Lib.hid hbk
       have hb2 := h2.lt
       have hB2 := h2.le
       have hC2 := hbk.lt
       have d02 : w2.cell? ⟨w.heap.size, 0, none⟩ = some (.string nm) := HB2.out.cell 0
       have d12 : w2.cell? ⟨w.heap.size, 1, none⟩ = some (.int .i64 kd) := HB2.out.cell 1
       have d22 : w2.cell? ⟨w.heap.size, 2, none⟩ = some (.bool nul) := HB2.out.cell 2
       have d32 : w2.cell? ⟨w.heap.size, 3, none⟩ = some (.bool uni) := HB2.out.cell 3
       have d42 : w2.cell? ⟨w.heap.size, 4, none⟩ = some (.string rf) := HB2.out.cell 4
       have d52 : w2.cell? ⟨w.heap.size, 5, none⟩ = some (.int .i64 ac) := HB2.out.cell 5
       clear h1 h2 h3 h4 hbk))
   all_goals
    have he := HE1.out
    rw [catW_add, H12.out] at he
    have HE2 := Lib.hid (show WS B b w (Option.bind (nulW nul uni rf ac) (addW l2)) = S from he)
    clear he H12
    cases nul
    · have he := HE2.out
      unfold nulW at he
      rw [catW_add] at he
      clear HE2
      have HE2 := Lib.hid (show WS B b w (Option.bind (uniW uni rf ac) (addW l2)) = S from he)
      clear he
      cases uni
      · have he := HE2.out
        unfold uniW at he
        rw [catW_add] at he
        clear HE2
        have HE2 := Lib.hid (show WS B b w (Option.bind (refW rf ac) (addW l2)) = S from he)
        clear he
        by_cases hrf : rf.size = 0
        · have he := HE2.out
          unfold refW at he
          rw [if_pos hrf] at he
          clear HE2
          have HE2 := Lib.hid (show WS B b w (some l2) = S from he)
          have hrne := size_eq hrf
          clear he hrf
          go_wp2
          go_end0
          rw [← HE2.out]
          exact ⟨rfl, HW2.out, HL2.out, HK2.out⟩
        · have he := HE2.out
          unfold refW at he
          rw [if_neg hrf] at he
          clear HE2
          have HE2 := Lib.hid he
          have hrne := size_ne hrf
          clear he
          go_wp2_with fail
          refine (add_c B b w2.heap.size l2 [w_ref, rf.data.toList] 2 _ (HW2.out.alloc _) HL2.out (Ws.new w2 b [w_ref, rf.data.toList] _ (by rw [List.map_cons, List.map_cons, List.map_nil, ba_back]; rfl) hb2 _ rfl) rfl (by omega) (by intro s hs; simp only [List.mem_cons, List.not_mem_nil, or_false] at hs; rcases hs with rfl | rfl; exact (by decide); exact Hr.out)).mono ?_
          rintro e w3 hs
          rcases WS.yes (Wk.refl B b _) hs with ⟨rfl, h1, h2⟩ | ⟨rfl, l3, h1, h2, h3, h4⟩
          · refine ⟨rfl, ?_⟩
            rw [← HE2.out, catW_add, show (some [w_ref, rf.data.toList]).bind (addW l2) = none from h1]
            exact ⟨rfl, (HK2.out.alloc hB2 _).trans h2⟩
          · have he := HE2.out
            rw [catW_add, show (some [w_ref, rf.data.toList]).bind (addW l2) = some l3 from h1] at he
            have HE3 := Lib.hid (show WS B b w (Option.bind (chW ac acWs) (addW l3)) = S from he)
            clear he
            have HW3 := Lib.hid h2
            have HL3 := Lib.hid h3
            have HK3 := Lib.hid ((HK2.out.alloc hB2 _).trans h4)
            have HB3 := Lib.hid (h4.bk (HB2.out.alloc _) hne (by decide))
            have hb3 := h2.lt
            have hB3 := h2.le
            have hC3 := HB3.out.lt
            have d03 : w3.cell? ⟨w.heap.size, 0, none⟩ = some (.string nm) := HB3.out.cell 0
            have d13 : w3.cell? ⟨w.heap.size, 1, none⟩ = some (.int .i64 kd) := HB3.out.cell 1
            have d23 : w3.cell? ⟨w.heap.size, 2, none⟩ = some (.bool false) := HB3.out.cell 2
            have d33 : w3.cell? ⟨w.heap.size, 3, none⟩ = some (.bool false) := HB3.out.cell 3
            have d43 : w3.cell? ⟨w.heap.size, 4, none⟩ = some (.string rf) := HB3.out.cell 4
            have d53 : w3.cell? ⟨w.heap.size, 5, none⟩ = some (.int .i64 ac) := HB3.out.cell 5
            clear h1 h2 h3 h4 hs
            go_wp2_with fail
            go_region_law (first
             | (refine step_callO rfl 171 #[] (by kernel_rfl) (.slice (some ⟨w3.heap.size, 0, none⟩) 3 3) (fun w' => w' = wdN w3.drew acWs) ((acts_c _).mono ?_) ?_
                · rintro e w5 ⟨rfl, rfl⟩
                  exact .inl ⟨by first | rfl | simp, rfl⟩
                rintro w5 rfl)
             | (refine step_callO rfl 130 #[.pointer (some ⟨b, 0, none⟩), .int .i64 ac, .slice (some ⟨w3.heap.size, 0, none⟩) 3 3] (by first | kernel_rfl | rfl) (.tuple #[]) (fun w' => ∃ q, (chW ac acWs).bind (addW l3) = some q ∧ Wr w' B b q ∧ q.length ≤ 20000 ∧ Wk B b w w' ∧ Bk w' w.heap.size #[.string nm, .int .i64 kd, .bool false, .bool false, .string rf, .int .i64 ac] 41) ((choice_w B b w3.heap.size l3 ac acWs 3 (wdN w3.drew acWs) (HW3.out.drew.alloc _) HL3.out (Ws.new w3.drew b acWs _ rfl hb3 _ (by first | rfl | simp)) rfl (by omega) (by intro s hs; simp [acWs] at hs; rcases hs with rfl | rfl | rfl <;> decide)).mono ?_) ?_
                · intro e w6 hs
                  have hk : Wk B b w (wdN w3.drew acWs) := HK3.out.drew.alloc hB3 _
                  have hbk : Bk (wdN w3.drew acWs) w.heap.size #[.string nm, .int .i64 kd, .bool false, .bool false, .string rf, .int .i64 ac] 41 := HB3.out.drew.alloc _
                  rcases WS.yes (Wk.refl B b _) hs with ⟨rfl, h1, h2⟩ | ⟨rfl, q, h1, h2, h3, h4⟩
                  · refine .inr ⟨_, rfl, rfl, ?_⟩
                    rw [← HE3.out, h1]
                    exact ⟨rfl, hk.trans h2⟩
                  · exact .inl ⟨rfl, q, h1, h2, h3, hk.trans h4, h4.bk hbk hne (by decide)⟩
                rintro w4 ⟨l4, h1, h2, h3, h4, hbk⟩
                have H14 := Lib.hid h1
                have HW4 := Lib.hid h2
                have HL4 := Lib.hid h3
                have HK4 := Lib.hid h4
                have HB4 := Lib.hid hbk
                have hb4 := h2.lt
                have hB4 := h2.le
                have hC4 := hbk.lt
                clear h1 h2 h3 h4 hbk))
            all_goals
             have he := HE3.out
             rw [H14.out] at he
             have HE4 := Lib.hid he
             clear he H14
             go_wp2
             go_end0
             rw [← HE4.out]
             exact ⟨rfl, HW4.out, HL4.out, HK4.out⟩
      · have he := HE2.out
        unfold uniW at he
        clear HE2
        have HE2 := Lib.hid (show WS B b w (Option.bind (catW (some [w_unique]) (refW rf ac)) (addW l2)) = S from he)
        clear he
        go_wp2_with fail
        refine (add_c B b w2.heap.size l2 [w_unique] 1 _ (HW2.out.alloc _) HL2.out (Ws.new w2 b [w_unique] _ (rfl) hb2 _ rfl) rfl (by omega) (by intro s hs; simp only [List.mem_singleton] at hs; subst hs; decide)).mono ?_
        rintro e w3 hs
        rcases WS.yes (Wk.refl B b _) hs with ⟨rfl, h1, h2⟩ | ⟨rfl, l3, h1, h2, h3, h4⟩
        · refine ⟨rfl, ?_⟩
          rw [← HE2.out, catW_add, show (some [w_unique]).bind (addW l2) = none from h1]
          exact ⟨rfl, (HK2.out.alloc hB2 _).trans h2⟩
        · have he := HE2.out
          rw [catW_add, show (some [w_unique]).bind (addW l2) = some l3 from h1] at he
          have HE3 := Lib.hid (show WS B b w (Option.bind (refW rf ac) (addW l3)) = S from he)
          clear he
          have HW3 := Lib.hid h2
          have HL3 := Lib.hid h3
          have HK3 := Lib.hid ((HK2.out.alloc hB2 _).trans h4)
          have HB3 := Lib.hid (h4.bk (HB2.out.alloc _) hne (by decide))
          have hb3 := h2.lt
          have hB3 := h2.le
          have hC3 := HB3.out.lt
          have d03 : w3.cell? ⟨w.heap.size, 0, none⟩ = some (.string nm) := HB3.out.cell 0
          have d13 : w3.cell? ⟨w.heap.size, 1, none⟩ = some (.int .i64 kd) := HB3.out.cell 1
          have d23 : w3.cell? ⟨w.heap.size, 2, none⟩ = some (.bool false) := HB3.out.cell 2
          have d33 : w3.cell? ⟨w.heap.size, 3, none⟩ = some (.bool true) := HB3.out.cell 3
          have d43 : w3.cell? ⟨w.heap.size, 4, none⟩ = some (.string rf) := HB3.out.cell 4
          have d53 : w3.cell? ⟨w.heap.size, 5, none⟩ = some (.int .i64 ac) := HB3.out.cell 5
          clear h1 h2 h3 h4 hs
          by_cases hrf : rf.size = 0
          · have he := HE3.out
            unfold refW at he
            rw [if_pos hrf] at he
            clear HE3
            have HE3 := Lib.hid (show WS B b w (some l3) = S from he)
            have hrne := size_eq hrf
            clear he hrf
            go_wp2
            go_end0
            rw [← HE3.out]
            exact ⟨rfl, HW3.out, HL3.out, HK3.out⟩
          · have he := HE3.out
            unfold refW at he
            rw [if_neg hrf] at he
            clear HE3
            have HE3 := Lib.hid he
            have hrne := size_ne hrf
            clear he
            go_wp2_with fail
            refine (add_c B b w3.heap.size l3 [w_ref, rf.data.toList] 2 _ (HW3.out.alloc _) HL3.out (Ws.new w3 b [w_ref, rf.data.toList] _ (by rw [List.map_cons, List.map_cons, List.map_nil, ba_back]; rfl) hb3 _ rfl) rfl (by omega) (by intro s hs; simp only [List.mem_cons, List.not_mem_nil, or_false] at hs; rcases hs with rfl | rfl; exact (by decide); exact Hr.out)).mono ?_
            rintro e w4 hs
            rcases WS.yes (Wk.refl B b _) hs with ⟨rfl, h1, h2⟩ | ⟨rfl, l4, h1, h2, h3, h4⟩
            · refine ⟨rfl, ?_⟩
              rw [← HE3.out, catW_add, show (some [w_ref, rf.data.toList]).bind (addW l3) = none from h1]
              exact ⟨rfl, (HK3.out.alloc hB3 _).trans h2⟩
            · have he := HE3.out
              rw [catW_add, show (some [w_ref, rf.data.toList]).bind (addW l3) = some l4 from h1] at he
              have HE4 := Lib.hid (show WS B b w (Option.bind (chW ac acWs) (addW l4)) = S from he)
              clear he
              have HW4 := Lib.hid h2
              have HL4 := Lib.hid h3
              have HK4 := Lib.hid ((HK3.out.alloc hB3 _).trans h4)
              have HB4 := Lib.hid (h4.bk (HB3.out.alloc _) hne (by decide))
              have hb4 := h2.lt
              have hB4 := h2.le
              have hC4 := HB4.out.lt
              have d04 : w4.cell? ⟨w.heap.size, 0, none⟩ = some (.string nm) := HB4.out.cell 0
              have d14 : w4.cell? ⟨w.heap.size, 1, none⟩ = some (.int .i64 kd) := HB4.out.cell 1
              have d24 : w4.cell? ⟨w.heap.size, 2, none⟩ = some (.bool false) := HB4.out.cell 2
              have d34 : w4.cell? ⟨w.heap.size, 3, none⟩ = some (.bool true) := HB4.out.cell 3
              have d44 : w4.cell? ⟨w.heap.size, 4, none⟩ = some (.string rf) := HB4.out.cell 4
              have d54 : w4.cell? ⟨w.heap.size, 5, none⟩ = some (.int .i64 ac) := HB4.out.cell 5
              clear h1 h2 h3 h4 hs
              go_wp2_with fail
              go_region_law (first
               | (refine step_callO rfl 171 #[] (by kernel_rfl) (.slice (some ⟨w4.heap.size, 0, none⟩) 3 3) (fun w' => w' = wdN w4.drew acWs) ((acts_c _).mono ?_) ?_
                  · rintro e w5 ⟨rfl, rfl⟩
                    exact .inl ⟨by first | rfl | simp, rfl⟩
                  rintro w5 rfl)
               | (refine step_callO rfl 130 #[.pointer (some ⟨b, 0, none⟩), .int .i64 ac, .slice (some ⟨w4.heap.size, 0, none⟩) 3 3] (by first | kernel_rfl | rfl) (.tuple #[]) (fun w' => ∃ q, (chW ac acWs).bind (addW l4) = some q ∧ Wr w' B b q ∧ q.length ≤ 20000 ∧ Wk B b w w' ∧ Bk w' w.heap.size #[.string nm, .int .i64 kd, .bool false, .bool true, .string rf, .int .i64 ac] 41) ((choice_w B b w4.heap.size l4 ac acWs 3 (wdN w4.drew acWs) (HW4.out.drew.alloc _) HL4.out (Ws.new w4.drew b acWs _ rfl hb4 _ (by first | rfl | simp)) rfl (by omega) (by intro s hs; simp [acWs] at hs; rcases hs with rfl | rfl | rfl <;> decide)).mono ?_) ?_
                  · intro e w6 hs
                    have hk : Wk B b w (wdN w4.drew acWs) := HK4.out.drew.alloc hB4 _
                    have hbk : Bk (wdN w4.drew acWs) w.heap.size #[.string nm, .int .i64 kd, .bool false, .bool true, .string rf, .int .i64 ac] 41 := HB4.out.drew.alloc _
                    rcases WS.yes (Wk.refl B b _) hs with ⟨rfl, h1, h2⟩ | ⟨rfl, q, h1, h2, h3, h4⟩
                    · refine .inr ⟨_, rfl, rfl, ?_⟩
                      rw [← HE4.out, h1]
                      exact ⟨rfl, hk.trans h2⟩
                    · exact .inl ⟨rfl, q, h1, h2, h3, hk.trans h4, h4.bk hbk hne (by decide)⟩
                  rintro w5 ⟨l5, h1, h2, h3, h4, hbk⟩
                  have H15 := Lib.hid h1
                  have HW5 := Lib.hid h2
                  have HL5 := Lib.hid h3
                  have HK5 := Lib.hid h4
                  have HB5 := Lib.hid hbk
                  have hb5 := h2.lt
                  have hB5 := h2.le
                  have hC5 := hbk.lt
                  clear h1 h2 h3 h4 hbk))
              all_goals
               have he := HE4.out
               rw [H15.out] at he
               have HE5 := Lib.hid he
               clear he H15
               go_wp2
               go_end0
               rw [← HE5.out]
               exact ⟨rfl, HW5.out, HL5.out, HK5.out⟩
    · have he := HE2.out
      unfold nulW at he
      clear HE2
      have HE2 := Lib.hid (show WS B b w (Option.bind (catW (some [w_null]) (uniW uni rf ac)) (addW l2)) = S from he)
      clear he
      go_wp2_with fail
      refine (add_c B b w2.heap.size l2 [w_null] 1 _ (HW2.out.alloc _) HL2.out (Ws.new w2 b [w_null] _ (rfl) hb2 _ rfl) rfl (by omega) (by intro s hs; simp only [List.mem_singleton] at hs; subst hs; decide)).mono ?_
      rintro e w3 hs
      rcases WS.yes (Wk.refl B b _) hs with ⟨rfl, h1, h2⟩ | ⟨rfl, l3, h1, h2, h3, h4⟩
      · refine ⟨rfl, ?_⟩
        rw [← HE2.out, catW_add, show (some [w_null]).bind (addW l2) = none from h1]
        exact ⟨rfl, (HK2.out.alloc hB2 _).trans h2⟩
      · have he := HE2.out
        rw [catW_add, show (some [w_null]).bind (addW l2) = some l3 from h1] at he
        have HE3 := Lib.hid (show WS B b w (Option.bind (uniW uni rf ac) (addW l3)) = S from he)
        clear he
        have HW3 := Lib.hid h2
        have HL3 := Lib.hid h3
        have HK3 := Lib.hid ((HK2.out.alloc hB2 _).trans h4)
        have HB3 := Lib.hid (h4.bk (HB2.out.alloc _) hne (by decide))
        have hb3 := h2.lt
        have hB3 := h2.le
        have hC3 := HB3.out.lt
        have d03 : w3.cell? ⟨w.heap.size, 0, none⟩ = some (.string nm) := HB3.out.cell 0
        have d13 : w3.cell? ⟨w.heap.size, 1, none⟩ = some (.int .i64 kd) := HB3.out.cell 1
        have d23 : w3.cell? ⟨w.heap.size, 2, none⟩ = some (.bool true) := HB3.out.cell 2
        have d33 : w3.cell? ⟨w.heap.size, 3, none⟩ = some (.bool uni) := HB3.out.cell 3
        have d43 : w3.cell? ⟨w.heap.size, 4, none⟩ = some (.string rf) := HB3.out.cell 4
        have d53 : w3.cell? ⟨w.heap.size, 5, none⟩ = some (.int .i64 ac) := HB3.out.cell 5
        clear h1 h2 h3 h4 hs
        cases uni
        · have he := HE3.out
          unfold uniW at he
          rw [catW_add] at he
          clear HE3
          have HE3 := Lib.hid (show WS B b w (Option.bind (refW rf ac) (addW l3)) = S from he)
          clear he
          by_cases hrf : rf.size = 0
          · have he := HE3.out
            unfold refW at he
            rw [if_pos hrf] at he
            clear HE3
            have HE3 := Lib.hid (show WS B b w (some l3) = S from he)
            have hrne := size_eq hrf
            clear he hrf
            go_wp2
            go_end0
            rw [← HE3.out]
            exact ⟨rfl, HW3.out, HL3.out, HK3.out⟩
          · have he := HE3.out
            unfold refW at he
            rw [if_neg hrf] at he
            clear HE3
            have HE3 := Lib.hid he
            have hrne := size_ne hrf
            clear he
            go_wp2_with fail
            refine (add_c B b w3.heap.size l3 [w_ref, rf.data.toList] 2 _ (HW3.out.alloc _) HL3.out (Ws.new w3 b [w_ref, rf.data.toList] _ (by rw [List.map_cons, List.map_cons, List.map_nil, ba_back]; rfl) hb3 _ rfl) rfl (by omega) (by intro s hs; simp only [List.mem_cons, List.not_mem_nil, or_false] at hs; rcases hs with rfl | rfl; exact (by decide); exact Hr.out)).mono ?_
            rintro e w4 hs
            rcases WS.yes (Wk.refl B b _) hs with ⟨rfl, h1, h2⟩ | ⟨rfl, l4, h1, h2, h3, h4⟩
            · refine ⟨rfl, ?_⟩
              rw [← HE3.out, catW_add, show (some [w_ref, rf.data.toList]).bind (addW l3) = none from h1]
              exact ⟨rfl, (HK3.out.alloc hB3 _).trans h2⟩
            · have he := HE3.out
              rw [catW_add, show (some [w_ref, rf.data.toList]).bind (addW l3) = some l4 from h1] at he
              have HE4 := Lib.hid (show WS B b w (Option.bind (chW ac acWs) (addW l4)) = S from he)
              clear he
              have HW4 := Lib.hid h2
              have HL4 := Lib.hid h3
              have HK4 := Lib.hid ((HK3.out.alloc hB3 _).trans h4)
              have HB4 := Lib.hid (h4.bk (HB3.out.alloc _) hne (by decide))
              have hb4 := h2.lt
              have hB4 := h2.le
              have hC4 := HB4.out.lt
              have d04 : w4.cell? ⟨w.heap.size, 0, none⟩ = some (.string nm) := HB4.out.cell 0
              have d14 : w4.cell? ⟨w.heap.size, 1, none⟩ = some (.int .i64 kd) := HB4.out.cell 1
              have d24 : w4.cell? ⟨w.heap.size, 2, none⟩ = some (.bool true) := HB4.out.cell 2
              have d34 : w4.cell? ⟨w.heap.size, 3, none⟩ = some (.bool false) := HB4.out.cell 3
              have d44 : w4.cell? ⟨w.heap.size, 4, none⟩ = some (.string rf) := HB4.out.cell 4
              have d54 : w4.cell? ⟨w.heap.size, 5, none⟩ = some (.int .i64 ac) := HB4.out.cell 5
              clear h1 h2 h3 h4 hs
              go_wp2_with fail
              go_region_law (first
               | (refine step_callO rfl 171 #[] (by kernel_rfl) (.slice (some ⟨w4.heap.size, 0, none⟩) 3 3) (fun w' => w' = wdN w4.drew acWs) ((acts_c _).mono ?_) ?_
                  · rintro e w5 ⟨rfl, rfl⟩
                    exact .inl ⟨by first | rfl | simp, rfl⟩
                  rintro w5 rfl)
               | (refine step_callO rfl 130 #[.pointer (some ⟨b, 0, none⟩), .int .i64 ac, .slice (some ⟨w4.heap.size, 0, none⟩) 3 3] (by first | kernel_rfl | rfl) (.tuple #[]) (fun w' => ∃ q, (chW ac acWs).bind (addW l4) = some q ∧ Wr w' B b q ∧ q.length ≤ 20000 ∧ Wk B b w w' ∧ Bk w' w.heap.size #[.string nm, .int .i64 kd, .bool true, .bool false, .string rf, .int .i64 ac] 41) ((choice_w B b w4.heap.size l4 ac acWs 3 (wdN w4.drew acWs) (HW4.out.drew.alloc _) HL4.out (Ws.new w4.drew b acWs _ rfl hb4 _ (by first | rfl | simp)) rfl (by omega) (by intro s hs; simp [acWs] at hs; rcases hs with rfl | rfl | rfl <;> decide)).mono ?_) ?_
                  · intro e w6 hs
                    have hk : Wk B b w (wdN w4.drew acWs) := HK4.out.drew.alloc hB4 _
                    have hbk : Bk (wdN w4.drew acWs) w.heap.size #[.string nm, .int .i64 kd, .bool true, .bool false, .string rf, .int .i64 ac] 41 := HB4.out.drew.alloc _
                    rcases WS.yes (Wk.refl B b _) hs with ⟨rfl, h1, h2⟩ | ⟨rfl, q, h1, h2, h3, h4⟩
                    · refine .inr ⟨_, rfl, rfl, ?_⟩
                      rw [← HE4.out, h1]
                      exact ⟨rfl, hk.trans h2⟩
                    · exact .inl ⟨rfl, q, h1, h2, h3, hk.trans h4, h4.bk hbk hne (by decide)⟩
                  rintro w5 ⟨l5, h1, h2, h3, h4, hbk⟩
                  have H15 := Lib.hid h1
                  have HW5 := Lib.hid h2
                  have HL5 := Lib.hid h3
                  have HK5 := Lib.hid h4
                  have HB5 := Lib.hid hbk
                  have hb5 := h2.lt
                  have hB5 := h2.le
                  have hC5 := hbk.lt
                  clear h1 h2 h3 h4 hbk))
              all_goals
               have he := HE4.out
               rw [H15.out] at he
               have HE5 := Lib.hid he
               clear he H15
               go_wp2
               go_end0
               rw [← HE5.out]
               exact ⟨rfl, HW5.out, HL5.out, HK5.out⟩
        · have he := HE3.out
          unfold uniW at he
          clear HE3
          have HE3 := Lib.hid (show WS B b w (Option.bind (catW (some [w_unique]) (refW rf ac)) (addW l3)) = S from he)
          clear he
          go_wp2_with fail
          refine (add_c B b w3.heap.size l3 [w_unique] 1 _ (HW3.out.alloc _) HL3.out (Ws.new w3 b [w_unique] _ (rfl) hb3 _ rfl) rfl (by omega) (by intro s hs; simp only [List.mem_singleton] at hs; subst hs; decide)).mono ?_
          rintro e w4 hs
          rcases WS.yes (Wk.refl B b _) hs with ⟨rfl, h1, h2⟩ | ⟨rfl, l4, h1, h2, h3, h4⟩
          · refine ⟨rfl, ?_⟩
            rw [← HE3.out, catW_add, show (some [w_unique]).bind (addW l3) = none from h1]
            exact ⟨rfl, (HK3.out.alloc hB3 _).trans h2⟩
          · have he := HE3.out
            rw [catW_add, show (some [w_unique]).bind (addW l3) = some l4 from h1] at he
            have HE4 := Lib.hid (show WS B b w (Option.bind (refW rf ac) (addW l4)) = S from he)
            clear he
            have HW4 := Lib.hid h2
            have HL4 := Lib.hid h3
            have HK4 := Lib.hid ((HK3.out.alloc hB3 _).trans h4)
            have HB4 := Lib.hid (h4.bk (HB3.out.alloc _) hne (by decide))
            have hb4 := h2.lt
            have hB4 := h2.le
            have hC4 := HB4.out.lt
            have d04 : w4.cell? ⟨w.heap.size, 0, none⟩ = some (.string nm) := HB4.out.cell 0
            have d14 : w4.cell? ⟨w.heap.size, 1, none⟩ = some (.int .i64 kd) := HB4.out.cell 1
            have d24 : w4.cell? ⟨w.heap.size, 2, none⟩ = some (.bool true) := HB4.out.cell 2
            have d34 : w4.cell? ⟨w.heap.size, 3, none⟩ = some (.bool true) := HB4.out.cell 3
            have d44 : w4.cell? ⟨w.heap.size, 4, none⟩ = some (.string rf) := HB4.out.cell 4
            have d54 : w4.cell? ⟨w.heap.size, 5, none⟩ = some (.int .i64 ac) := HB4.out.cell 5
            clear h1 h2 h3 h4 hs
            by_cases hrf : rf.size = 0
            · have he := HE4.out
              unfold refW at he
              rw [if_pos hrf] at he
              clear HE4
              have HE4 := Lib.hid (show WS B b w (some l4) = S from he)
              have hrne := size_eq hrf
              clear he hrf
              go_wp2
              go_end0
              rw [← HE4.out]
              exact ⟨rfl, HW4.out, HL4.out, HK4.out⟩
            · have he := HE4.out
              unfold refW at he
              rw [if_neg hrf] at he
              clear HE4
              have HE4 := Lib.hid he
              have hrne := size_ne hrf
              clear he
              go_wp2_with fail
              refine (add_c B b w4.heap.size l4 [w_ref, rf.data.toList] 2 _ (HW4.out.alloc _) HL4.out (Ws.new w4 b [w_ref, rf.data.toList] _ (by rw [List.map_cons, List.map_cons, List.map_nil, ba_back]; rfl) hb4 _ rfl) rfl (by omega) (by intro s hs; simp only [List.mem_cons, List.not_mem_nil, or_false] at hs; rcases hs with rfl | rfl; exact (by decide); exact Hr.out)).mono ?_
              rintro e w5 hs
              rcases WS.yes (Wk.refl B b _) hs with ⟨rfl, h1, h2⟩ | ⟨rfl, l5, h1, h2, h3, h4⟩
              · refine ⟨rfl, ?_⟩
                rw [← HE4.out, catW_add, show (some [w_ref, rf.data.toList]).bind (addW l4) = none from h1]
                exact ⟨rfl, (HK4.out.alloc hB4 _).trans h2⟩
              · have he := HE4.out
                rw [catW_add, show (some [w_ref, rf.data.toList]).bind (addW l4) = some l5 from h1] at he
                have HE5 := Lib.hid (show WS B b w (Option.bind (chW ac acWs) (addW l5)) = S from he)
                clear he
                have HW5 := Lib.hid h2
                have HL5 := Lib.hid h3
                have HK5 := Lib.hid ((HK4.out.alloc hB4 _).trans h4)
                have HB5 := Lib.hid (h4.bk (HB4.out.alloc _) hne (by decide))
                have hb5 := h2.lt
                have hB5 := h2.le
                have hC5 := HB5.out.lt
                have d05 : w5.cell? ⟨w.heap.size, 0, none⟩ = some (.string nm) := HB5.out.cell 0
                have d15 : w5.cell? ⟨w.heap.size, 1, none⟩ = some (.int .i64 kd) := HB5.out.cell 1
                have d25 : w5.cell? ⟨w.heap.size, 2, none⟩ = some (.bool true) := HB5.out.cell 2
                have d35 : w5.cell? ⟨w.heap.size, 3, none⟩ = some (.bool true) := HB5.out.cell 3
                have d45 : w5.cell? ⟨w.heap.size, 4, none⟩ = some (.string rf) := HB5.out.cell 4
                have d55 : w5.cell? ⟨w.heap.size, 5, none⟩ = some (.int .i64 ac) := HB5.out.cell 5
                clear h1 h2 h3 h4 hs
                go_wp2_with fail
                go_region_law (first
                 | (refine step_callO rfl 171 #[] (by kernel_rfl) (.slice (some ⟨w5.heap.size, 0, none⟩) 3 3) (fun w' => w' = wdN w5.drew acWs) ((acts_c _).mono ?_) ?_
                    · rintro e w5 ⟨rfl, rfl⟩
                      exact .inl ⟨by first | rfl | simp, rfl⟩
                    rintro w5 rfl)
                 | (refine step_callO rfl 130 #[.pointer (some ⟨b, 0, none⟩), .int .i64 ac, .slice (some ⟨w5.heap.size, 0, none⟩) 3 3] (by first | kernel_rfl | rfl) (.tuple #[]) (fun w' => ∃ q, (chW ac acWs).bind (addW l5) = some q ∧ Wr w' B b q ∧ q.length ≤ 20000 ∧ Wk B b w w' ∧ Bk w' w.heap.size #[.string nm, .int .i64 kd, .bool true, .bool true, .string rf, .int .i64 ac] 41) ((choice_w B b w5.heap.size l5 ac acWs 3 (wdN w5.drew acWs) (HW5.out.drew.alloc _) HL5.out (Ws.new w5.drew b acWs _ rfl hb5 _ (by first | rfl | simp)) rfl (by omega) (by intro s hs; simp [acWs] at hs; rcases hs with rfl | rfl | rfl <;> decide)).mono ?_) ?_
                    · intro e w6 hs
                      have hk : Wk B b w (wdN w5.drew acWs) := HK5.out.drew.alloc hB5 _
                      have hbk : Bk (wdN w5.drew acWs) w.heap.size #[.string nm, .int .i64 kd, .bool true, .bool true, .string rf, .int .i64 ac] 41 := HB5.out.drew.alloc _
                      rcases WS.yes (Wk.refl B b _) hs with ⟨rfl, h1, h2⟩ | ⟨rfl, q, h1, h2, h3, h4⟩
                      · refine .inr ⟨_, rfl, rfl, ?_⟩
                        rw [← HE5.out, h1]
                        exact ⟨rfl, hk.trans h2⟩
                      · exact .inl ⟨rfl, q, h1, h2, h3, hk.trans h4, h4.bk hbk hne (by decide)⟩
                    rintro w6 ⟨l6, h1, h2, h3, h4, hbk⟩
                    have H16 := Lib.hid h1
                    have HW6 := Lib.hid h2
                    have HL6 := Lib.hid h3
                    have HK6 := Lib.hid h4
                    have HB6 := Lib.hid hbk
                    have hb6 := h2.lt
                    have hB6 := h2.le
                    have hC6 := hbk.lt
                    clear h1 h2 h3 h4 hbk))
                all_goals
                 have he := HE5.out
                 rw [H16.out] at he
                 have HE6 := Lib.hid he
                 clear he H16
                 go_wp2
                 go_end0
                 rw [← HE6.out]
                 exact ⟨rfl, HW6.out, HL6.out, HK6.out⟩
set_option maxHeartbeats 8000000 in
theorem colI_w (B b k1 k2 : Nat) (lc : List UInt8) (A : Option Addr) (n c : Nat) (xs : List Cl) (u : World) (k : Nat) (x : Cl) (h1 : u.cell? ⟨k1, 0, none⟩ = some (.pointer (some ⟨b, 0, none⟩))) (h2 : u.cell? ⟨k2, 1, none⟩ = some (.slice A n c)) (hs : SlG u A 6 rdCl xs) (hn : xs.length = n) (hm : n ≤ maxLen) (hx : xs[k]? = some x) (hw : Wr u B b lc) (hl : lc.length ≤ 20000) (hz : x.name.size ≤ 4611686018427387904 ∧ x.ref.size ≤ 4611686018427387904) :
 Calls Tryz.prog 142 #[.int .i64 k, .pointer (some ⟨k1, 0, none⟩), .pointer (some ⟨k2, 0, none⟩)] u (WS B b u ((clW x).bind (addW lc))) := by
 obtain ⟨S, hS⟩ : ∃ S, WS B b u ((clW x).bind (addW lc)) = S := ⟨_, rfl⟩
 rw [hS]
 unfold maxLen at hm
 have hlt : k < n := by rw [← hn]; exact (List.getElem?_eq_some_iff.1 hx).1
 obtain ⟨g, off, hA, hg, hcell⟩ : ∃ g off, A = some ⟨g, off, none⟩ ∧ g < u.heap.size ∧ ∀ i x, xs[i]? = some x → ∀ j w, (rdCl x)[j]? = some w → u.cell? ⟨g, off + i * 6 + j, none⟩ = some w := by
  rcases hs with h | h
  · rw [h] at hx; simp at hx
  · exact h
 subst hA
 have hc := hcell k x hx
 have e0 : u.cell? ⟨g, off + k * 6, none⟩ = some (.string x.name) := hc 0 _ rfl
 have e1 : u.cell? ⟨g, off + k * 6 + 1, none⟩ = some (.int .i64 x.kind) := hc 1 _ rfl
 have e2 : u.cell? ⟨g, off + k * 6 + 2, none⟩ = some (.bool x.nul) := hc 2 _ rfl
 have e3 : u.cell? ⟨g, off + k * 6 + 3, none⟩ = some (.bool x.uni) := hc 3 _ rfl
 have e4 : u.cell? ⟨g, off + k * 6 + 4, none⟩ = some (.string x.ref) := hc 4 _ rfl
 have e5 : u.cell? ⟨g, off + k * 6 + 5, none⟩ = some (.int .i64 x.act) := hc 5 _ rfl
 have HS := Lib.hid hS
 have HC := Lib.hid (column_w B b lc x u.drew hw.drew hl hz.1 hz.2)
 clear hS hs hn hx hw hl hcell hc
 go_enter Tryz.func142, Tryz.ntmps142
 go_region_law (first
  | (refine step_callO rfl 143 #[.pointer (some ⟨b, 0, none⟩), x.w] (by kernel_rfl) (.tuple #[]) (fun w' => S (.returned (.tuple #[])) w') (HC.out.mono ?_) ?_
     · intro e w6 hs
       rcases (WS.from ((Wk.refl B b u).drew) hs).out HS.out with ⟨rfl, h⟩ | ⟨rfl, h⟩
       · exact .inr ⟨_, rfl, rfl, h⟩
       · exact .inl ⟨rfl, h⟩
     intro w6 hs
     have H6 := Lib.hid hs
     clear hs))
 all_goals
  go_end0
  exact H6.out
set_option maxHeartbeats 8000000 in
theorem pickI_w (B b k1 k2 : Nat) (lc : List UInt8) (A : Option Addr) (n c : Nat) (xs : List Int) (u : World) (k : Nat) (x : Int) (h1 : u.cell? ⟨k1, 0, none⟩ = some (.pointer (some ⟨b, 0, none⟩))) (h2 : u.cell? ⟨k2, 6, none⟩ = some (.slice A n c)) (hs : SlG u A 1 rdI xs) (hn : xs.length = n) (hm : n ≤ maxLen) (hx : xs[k]? = some x) (hw : Wr u B b lc) (hl : lc.length ≤ 20000) (hG : Gw B u) (hz : -9223372036854775808 ≤ x ∧ x ≤ 9223372036854775807) :
 Calls Tryz.prog 146 #[.int .i64 k, .pointer (some ⟨k1, 0, none⟩), .pointer (some ⟨k2, 0, none⟩)] u (WS B b u (addW lc [Lib.itoa x])) := by
 obtain ⟨S, hS⟩ : ∃ S, WS B b u (addW lc [Lib.itoa x]) = S := ⟨_, rfl⟩
 rw [hS]
 unfold maxLen at hm
 have hlt : k < n := by rw [← hn]; exact (List.getElem?_eq_some_iff.1 hx).1
 obtain ⟨g, off, hA, hg, hcell⟩ : ∃ g off, A = some ⟨g, off, none⟩ ∧ g < u.heap.size ∧ ∀ i x, xs[i]? = some x → ∀ j w, (rdI x)[j]? = some w → u.cell? ⟨g, off + i * 1 + j, none⟩ = some w := by
  rcases hs with h | h
  · rw [h] at hx; simp at hx
  · exact h
 subst hA
 have hc := hcell k x hx
 have e0 : u.cell? ⟨g, off + k, none⟩ = some (.int .i64 x) := by have := hc 0 _ rfl; simpa using this
 have HS := Lib.hid hS
 have HC := Lib.hid (number_w B b lc x u.drew hw.drew hl (hG.below ((Below.refl B u).drew)) hz)
 clear hS hs hn hx hw hl hcell hc
 go_enter Tryz.func146, Tryz.ntmps146
 go_region_law (first
  | (refine step_callO rfl 147 #[.pointer (some ⟨b, 0, none⟩), .int .i64 x] (by kernel_rfl) (.tuple #[]) (fun w' => S (.returned (.tuple #[])) w') (HC.out.mono ?_) ?_
     · intro e w6 hs
       rcases (WS.from ((Wk.refl B b u).drew) hs).out HS.out with ⟨rfl, h⟩ | ⟨rfl, h⟩
       · exact .inr ⟨_, rfl, rfl, h⟩
       · exact .inl ⟨rfl, h⟩
     intro w6 hs
     have H6 := Lib.hid hs
     clear hs))
 all_goals
  go_end0
  exact H6.out
set_option maxHeartbeats 8000000 in
theorem aggI_w (B b k1 k2 : Nat) (lc : List UInt8) (A : Option Addr) (n c : Nat) (xs : List Ag) (u : World) (k : Nat) (x : Ag) (h1 : u.cell? ⟨k1, 0, none⟩ = some (.pointer (some ⟨b, 0, none⟩))) (h2 : u.cell? ⟨k2, 8, none⟩ = some (.slice A n c)) (hs : SlG u A 2 rdAg xs) (hn : xs.length = n) (hm : n ≤ maxLen) (hx : xs[k]? = some x) (hw : Wr u B b lc) (hl : lc.length ≤ 20000) (hG : Gw B u) (hz : -9223372036854775808 ≤ x.col ∧ x.col ≤ 9223372036854775807) :
 Calls Tryz.prog 148 #[.int .i64 k, .pointer (some ⟨k1, 0, none⟩), .pointer (some ⟨k2, 0, none⟩)] u (WS B b u ((agW x).bind (addW lc))) := by
 obtain ⟨S, hS⟩ : ∃ S, WS B b u ((agW x).bind (addW lc)) = S := ⟨_, rfl⟩
 rw [hS]
 unfold maxLen at hm
 have hlt : k < n := by rw [← hn]; exact (List.getElem?_eq_some_iff.1 hx).1
 obtain ⟨g, off, hA, hg, hcell⟩ : ∃ g off, A = some ⟨g, off, none⟩ ∧ g < u.heap.size ∧ ∀ i x, xs[i]? = some x → ∀ j w, (rdAg x)[j]? = some w → u.cell? ⟨g, off + i * 2 + j, none⟩ = some w := by
  rcases hs with h | h
  · rw [h] at hx; simp at hx
  · exact h
 subst hA
 have hc := hcell k x hx
 have e0 : u.cell? ⟨g, off + k * 2, none⟩ = some (.int .i64 x.fn) := hc 0 _ rfl
 have e1 : u.cell? ⟨g, off + k * 2 + 1, none⟩ = some (.int .i64 x.col) := hc 1 _ rfl
 have HS := Lib.hid hS
 have HC := Lib.hid (agg_w B b lc x u.drew hw.drew hl (hG.below ((Below.refl B u).drew)) hz)
 clear hS hs hn hx hw hl hcell hc
 go_enter Tryz.func148, Tryz.ntmps148
 go_region_law (first
  | (refine step_callO rfl 149 #[.pointer (some ⟨b, 0, none⟩), x.w] (by kernel_rfl) (.tuple #[]) (fun w' => S (.returned (.tuple #[])) w') (HC.out.mono ?_) ?_
     · intro e w6 hs
       rcases (WS.from ((Wk.refl B b u).drew) hs).out HS.out with ⟨rfl, h⟩ | ⟨rfl, h⟩
       · exact .inr ⟨_, rfl, rfl, h⟩
       · exact .inl ⟨rfl, h⟩
     intro w6 hs
     have H6 := Lib.hid hs
     clear hs))
 all_goals
  go_end0
  exact H6.out
end Go.Proofs.YtamekagminbejaaGreatDoor
