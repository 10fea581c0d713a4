/-
  Part 3 of 8 of what the proof leans on: each part below says what it proves, and of what; no condition besides.
-/
import Derived.Test.YtamekagminbejaaGreatDoorQ02
import Derived.KernelRfl
import Derived.Deep.RegionLaw
set_option linter.unusedVariables false
set_option linter.unusedSimpArgs false
namespace Go.Proofs.YtamekagminbejaaGreatDoor
open Go Go.RowKit
set_option maxRecDepth 100000
theorem ret_nd {fn : Func} {R : Ending → World → Prop} {F : Act} {w : World} {t : Tmp} {b : Nat} {a : Nd} (hres : fn.results = #[.cell t 83]) (ht : Reg.slot F t = .pointer (some ⟨b, 0, none⟩)) (hb : Bk w b (rdN a).toArray 83) (hd : F.defers = [])
 (hR : R (.returned a.w) w) : bodyPost Tryz.prog fn R .ret F w := by
 have h0 : w.cell? ⟨b, 0, none⟩ = some (.int .i64 a.op) := hb.cell 0
 have h1 : w.cell? ⟨b, 1, none⟩ = some (.int .i64 a.n) := hb.cell 1
 have h2 : w.cell? ⟨b, 2, none⟩ = some (.int .i64 a.v.k) := hb.cell 2
 have h3 : w.cell? ⟨b, 3, none⟩ = some (.int .i64 a.v.n) := hb.cell 3
 have h4 : w.cell? ⟨b, 4, none⟩ = some (.string a.v.s) := hb.cell 4
 refine bodyPost_ret (v := a.w) ?_ hd hR
 have ht' : F.tmps[t]?.getD undef = .pointer (some ⟨b, 0, none⟩) := by simpa [Reg.slot] using ht
 simp [results, hres, ht', go_sem, h0, h1, h2, h3, h4]
theorem may_txt {t : Tk} (h : mayT t = true) : t.t.size ≤ 1000 := by
 have hl : t.t.size = t.t.data.toList.length := Array.length_toList.symm
 rw [hl]
 unfold mayT at h
 by_cases h0 : t.k = 0
 · simp [h0, wordB] at h
   have h1 := h.1
   revert h1
   cases t.t.data.toList with
   | nil => simp
   | cons c r =>
     intro h1
     simp at h1
     have := h1.1
     simp only [List.length_cons]; omega
 · by_cases h1 : t.k = 1
   · simp [h1] at h
     have := h.1
     rw [ByteArray.toList_eq] at this
     rw [this]; simp
   · by_cases h2 : t.k = 2
     · simp [h2] at h
       have h3 := h.1
       unfold signB at h3
       revert h3
       cases t.t.data.toList with
       | nil => simp
       | cons a r => cases r with
         | nil => simp
         | cons b r => simp
     · simp [h0, h1, h2] at h
theorem slW2 (w : World) (s u : List UInt8) : SlG (w.alloc (.cells #[.string (ba s), .string (ba u)] 9)) (some ⟨w.heap.size, 0, none⟩) 1 rdS [s, u] := SlG.new (rd := rdS) (S := 1) (fun _ => rfl) [s, u] rfl
def StepS (b : Nat) (w : World) (o : Option (Nd × List Tk)) (e : Ending) (w' : World) : Prop := match o with
 | none => e = .panicked (boom 70) ∧ Apb b w w'
 | some q => e = .returned q.1.w ∧ Rq w' b q.2 ∧ Apb b w w'
set_option maxHeartbeats 4000000 in
theorem step_cR (b : Nat) (l : List Tk) (w : World) (hR : Rq w b l) (hG : GL w) (hGb : GLt b) :
 Calls Tryz.prog 206 #[.pointer (some ⟨b, 0, none⟩)] w fun e w' => StepS b w (stepP l) e w' := by
 rw [← stepL_eq hR.may]
 have hbs := hR.lt
 have hN : (w.alloc (.cells (rdN nd0).toArray 83)).heap.size = w.heap.size + 1 := by simp
 have HH := Lib.hid (has_c b l [w_null, s_qm] (some ⟨w.heap.size + 1, 0, none⟩) 2 2 ((w.alloc (.cells (rdN nd0).toArray 83)).alloc (.cells #[.string (ba w_null), .string (ba s_qm)] 9)) ((hR.alloc _).alloc _) (by have := slW2 (w.alloc (.cells (rdN nd0).toArray 83)) w_null s_qm; rw [hN] at this; exact this) rfl (by decide) (by decide))
 have HB0 := Lib.hid (Bk.new w (rdN nd0).toArray 83)
 have Hmay := Lib.hid hR.may
 have HG := Lib.hid hG
 have Hgb := Lib.hid hGb
 obtain ⟨S, hS⟩ : ∃ S, StepS b w (stepL l) = S := ⟨_, rfl⟩
 rw [hS]
 have HS := Lib.hid hS
 clear hR hG hGb hN hS
 cases hq : seesB [w_null, s_qm] l
 · rw [hq] at HH
   go_enter Tryz.func206, Tryz.ntmps206
   go_wp2_with fail
   refine HH.out.mono ?_
   rintro e w1 ⟨rfl, hr, hb⟩
   rw [if_neg (by decide)] at hr
   have hba : Apb b w w1 := hb.of_alloc.of_alloc
   have HB1 := Lib.hid ((HB0.out.after (below_one _ _) (by simp)).kept hb (by omega))
   have Hr := Lib.hid hr
   have Hb := Lib.hid hba
   clear HH hr hb hba HB0
   cases l with
   | nil =>
     have HT := Lib.hid (rtake_nil b w1 Hr.out)
     have hS : S = StepS b w none := HS.out.symm
     clear HS hq
     go_wp2_with fail
     refine HT.out.mono ?_
     rintro e w2 ⟨rfl, hb2⟩
     exact ⟨rfl, by rw [hS]; exact ⟨rfl, Hb.out.trans hb2⟩⟩
   | cons t r =>
     have HT := Lib.hid (rtake_c b t r w1 Hr.out)
     rw [stepL_miss hq] at HS
     clear hq
     have Hts := Lib.hid (may_txt (Hmay.out t (by simp)))
     clear Hmay
     go_wp2_with fail
     refine HT.out.mono ?_
     rintro e w2 ⟨rfl, hr2, hb2⟩
     have HB2 := Lib.hid (HB1.out.kept hb2 (by omega))
     have Hr2 := Lib.hid hr2
     have Hb2 := Lib.hid (Hb.out.trans hb2)
     clear HT hr2 hb2 Hb Hr HB1
     have n0 : w2.cell? ⟨w.heap.size, 0, none⟩ = some (.int .i64 0) := HB2.out.cell 0
     have n1 : w2.cell? ⟨w.heap.size, 1, none⟩ = some (.int .i64 0) := HB2.out.cell 1
     have n2 : w2.cell? ⟨w.heap.size, 2, none⟩ = some (.int .i64 0) := HB2.out.cell 2
     have n3 : w2.cell? ⟨w.heap.size, 3, none⟩ = some (.int .i64 0) := HB2.out.cell 3
     have n4 : w2.cell? ⟨w.heap.size, 4, none⟩ = some (.string emp) := HB2.out.cell 4
     have z0 := HB2.out.thaw 0
     have z1 := HB2.out.thaw 1
     have z2 := HB2.out.thaw 2
     have z3 := HB2.out.thaw 3
     have z4 := HB2.out.thaw 4
     have hlt := HB2.out.lt
     by_cases hk : t.k = 1
     · have hS : S = StepS b w (some (⟨1, 0, t.v⟩, r)) := by rw [← HS.out]; unfold stepM; rw [if_pos hk]
       have e1 : (t.k == 1) = true := by simpa using hk
       have e2 : decide (t.k = 1) = true := by simpa using hk
       clear HS hk
       have HSS := Lib.hid hS
       clear hS
       go_wp2_with fail
       refine ret_nd (b := w.heap.size) (a := ⟨1, 0, t.v⟩) Tryz.results206 rfl ?_ rfl ?_
       · exact ((HB2.out.put (rdN ⟨1, 0, t.v⟩) rfl).after (below_one _ _) (by rw [putL_size]; exact hlt))
       · rw [HSS.out]
         exact ⟨rfl, (Hr2.out.put (by omega) 0 (rdN ⟨1, 0, t.v⟩)).alloc _, (Hb2.out.put (Nat.le_refl _) 0 (rdN ⟨1, 0, t.v⟩)).alloc _⟩
     · have e1 : (t.k == 1) = false := by simpa using hk
       have e2 : decide (t.k = 1) = false := by simpa using hk
       have hS : S = StepS b w (stepN (stF t.t) t r) := by rw [← HS.out]; unfold stepM; rw [if_neg hk]
       clear HS hk
       obtain ⟨A, n, c, m, hbk, _, _, _, _, hmb, hmo, _⟩ := Hr2.out
       have m1 : w2.cell? ⟨b, 1, none⟩ = some (.map (some m)) := hbk.cell 1
       have hbl := hbk.lt
       have HSS := Lib.hid hS
       have hm1 : (w2.alloc t.obj).heap[m]? = some (stO 11) := (Below.heap_alloc w2 t.obj m (by omega)).trans hmo
       have hl1 := run_look (w2.alloc t.obj).drew m t.t hm1
       have hl2 := run_look ((w2.alloc t.obj).alloc (.cells #[.int .i64 0, .int .i64 0, .int .i64 0, .int .i64 0, .string ⟨#[]⟩] 83)).drew m t.t ((Below.heap_alloc _ _ m (by simp; omega)).trans hm1)
       obtain ⟨x, hx⟩ : ∃ x, (stF t.t).getD nd0 = x := ⟨_, rfl⟩
       obtain ⟨y, hy⟩ : ∃ y, (stF t.t).isSome = y := ⟨_, rfl⟩
       rw [hx, hy] at hl1 hl2
       have Hx := Lib.hid hx
       have Hy := Lib.hid hy
       clear hm1 hx hy
       clear hS hbk hmo
       go_wp2_with fail
       go_region
       all_goals
        cases y
        · have hst : stF t.t = none := by
           have := Hy.out
           cases h : stF t.t with
           | none => rfl
           | some x => rw [h] at this; cases this
          have hS := HSS.out
          rw [hst] at hS
          have HS2 : Hid (S = StepS b w ((cnum t.t.data.toList).map fun (n : Nat) => ((⟨0, (n : Int), nl⟩ : Nd), r))) := Lib.hid hS
          have hBW : Below w2.heap.size w2 ((w2.alloc t.obj).alloc (.cells (rdN x).toArray 83)).drew := by
           have h1 := (below_one w2 t.obj).trans ((below_one (w2.alloc t.obj) (.cells (rdN x).toArray 83)).mono (by simp))
           exact ⟨h1.os, h1.tape, h1.output, h1.size, h1.block⟩
          have HGW := Lib.hid (((HG.out.below (Hb2.out.below hbs) Hgb.out).below (hBW.mono (B' := b) (by omega)) Hgb.out))
          have HBW := Lib.hid hBW
          clear hst hS HSS hl1 hl2 hBW Hx Hy
          go_wp2_with fail
          refine (colOf_c t.t _ (by have := Hts.out; omega) HGW.out).mono ?_
          rintro e w3 ⟨hcs, hb3⟩
          have hb4 := HBW.out.trans (hb3.mono HBW.out.size)
          have hlt3 : w.heap.size < w3.heap.size := Nat.lt_of_lt_of_le hlt hb4.size
          have HB3 := Lib.hid (HB2.out.after hb4 hlt)
          have Hr3 := Lib.hid (Hr2.out.after hb4 hbl)
          have Hb3 := Lib.hid (Hb2.out.then hb4 Hb2.out.size)
          clear hb3 hb4 HGW HBW
          cases hc : cnum t.t.data.toList with
          | none =>
            rw [hc] at hcs HS2
            have hcs : e = .panicked (boom 70) := hcs
            subst hcs
            refine ⟨rfl, ?_⟩
            rw [HS2.out]
            exact ⟨rfl, Hb3.out⟩
          | some q =>
            rw [hc] at hcs HS2
            have hcs : e = .returned (.int .i64 (q : Int)) := hcs
            subst hcs
            have HS3 : Hid (S = StepS b w (some (⟨0, q, nl⟩, r))) := HS2
            have n0 : w3.cell? ⟨w.heap.size, 0, none⟩ = some (.int .i64 0) := HB3.out.cell 0
            have n1 : w3.cell? ⟨w.heap.size, 1, none⟩ = some (.int .i64 0) := HB3.out.cell 1
            have n2 : w3.cell? ⟨w.heap.size, 2, none⟩ = some (.int .i64 0) := HB3.out.cell 2
            have n3 : w3.cell? ⟨w.heap.size, 3, none⟩ = some (.int .i64 0) := HB3.out.cell 3
            have n4 : w3.cell? ⟨w.heap.size, 4, none⟩ = some (.string emp) := HB3.out.cell 4
            have z0 := HB3.out.thaw 0
            have z1 := HB3.out.thaw 1
            have z2 := HB3.out.thaw 2
            have z3 := HB3.out.thaw 3
            have z4 := HB3.out.thaw 4
            clear hc HS2
            go_wp2
            refine ret_nd (b := w.heap.size) (a := ⟨0, q, nl⟩) Tryz.results206 rfl (HB3.out.put (rdN ⟨0, q, nl⟩) rfl) rfl ?_
            rw [HS3.out]
            exact ⟨rfl, Hr3.out.put (by omega) 0 (rdN ⟨0, q, nl⟩), Hb3.out.put (Nat.le_refl _) 0 (rdN ⟨0, q, nl⟩)⟩
        · have hst : stF t.t = some x := by
           have h1 := Hy.out
           have h2 := Hx.out
           cases h : stF t.t with
           | none => rw [h] at h1; cases h1
           | some x' => rw [h] at h2; exact congrArg some h2
          have hS := HSS.out
          rw [hst] at hS
          have HS2 : Hid (S = StepS b w (some (x, r))) := Lib.hid hS
          clear hst hS HSS hl1 hl2 Hx Hy
          go_wp2
          refine ret_nd (b := w.heap.size) (a := x) Tryz.results206 rfl ?_ rfl ?_
          · exact (((HB2.out.put (rdN x) rfl).after (below_one _ _) (by rw [putL_size]; exact hlt)).after (below_one _ _) (by simp [putL_size]; omega)).drew
          · rw [HS2.out]
            exact ⟨rfl, (((Hr2.out.put (by omega) 0 (rdN x)).alloc _).alloc _).drew, (((Hb2.out.put (Nat.le_refl _) 0 (rdN x)).alloc _).alloc _).drew⟩
 · rw [hq] at HH
   rw [stepL_hit hq] at HS
   clear hq
   go_enter Tryz.func206, Tryz.ntmps206
   go_wp2_with fail
   refine HH.out.mono ?_
   rintro e w1 ⟨rfl, hr, hb⟩
   have hr : Rq w1 b (l.drop 2) := hr
   have hba : Apb b w w1 := hb.of_alloc.of_alloc
   have HB1 := Lib.hid ((HB0.out.after (below_one _ _) (by simp)).kept hb (by omega))
   have Hr := Lib.hid hr
   have Hb := Lib.hid hba
   have n0 : w1.cell? ⟨w.heap.size, 0, none⟩ = some (.int .i64 0) := HB1.out.cell 0
   have n1 : w1.cell? ⟨w.heap.size, 1, none⟩ = some (.int .i64 0) := HB1.out.cell 1
   have n2 : w1.cell? ⟨w.heap.size, 2, none⟩ = some (.int .i64 0) := HB1.out.cell 2
   have n3 : w1.cell? ⟨w.heap.size, 3, none⟩ = some (.int .i64 0) := HB1.out.cell 3
   have n4 : w1.cell? ⟨w.heap.size, 4, none⟩ = some (.string emp) := HB1.out.cell 4
   have z0 := HB1.out.thaw 0
   have z1 := HB1.out.thaw 1
   have z2 := HB1.out.thaw 2
   have z3 := HB1.out.thaw 3
   have z4 := HB1.out.thaw 4
   clear HH hr hb hba HB0
   go_wp2
   refine ret_nd (b := w.heap.size) (a := ⟨10, 0, nl⟩) Tryz.results206 rfl (HB1.out.put (rdN ⟨10, 0, nl⟩) rfl) rfl ?_
   rw [← HS.out]
   exact ⟨rfl, Hr.out.put (by omega) 0 (rdN ⟨10, 0, nl⟩), Hb.out.put (Nat.le_refl _) 0 (rdN ⟨10, 0, nl⟩)⟩
end Go.Proofs.YtamekagminbejaaGreatDoor
namespace Go.Proofs.YtamekagminbejaaGreatDoor
open Go
set_option maxRecDepth 100000
def N64 (x : Nd) : Prop := -9223372036854775808 ≤ x.v.n ∧ x.v.n ≤ 9223372036854775807
def D64 (d : Df) : Prop := (∀ e ∈ d.t.checks, ∀ x ∈ e, N64 x) ∧ ∀ x ∈ d.v.whr, N64 x
def Gd (t : Tk) : Prop := mayT t = true ∧ T64 t
theorem gd_tN {b : ByteArray} (h : nameB b.data.toList = true) : Gd (tN b) := by
 unfold nameB at h
 simp only [Bool.and_eq_true] at h
 refine ⟨?_, (by decide : (-9223372036854775808 : Int) ≤ 0), (by decide : (0 : Int) ≤ 9223372036854775807)⟩
 unfold mayT tN
 simp [h.1, Val.eq_self]
theorem gd_tW {l : List UInt8} (h : wordB l = true) : Gd (tW l) := by
 refine ⟨?_, (by decide : (-9223372036854775808 : Int) ≤ 0), (by decide : (0 : Int) ≤ 9223372036854775807)⟩
 unfold mayT tW
 simp [h, Val.eq_self]
theorem gd_tS {l : List UInt8} (h : signB l = true) : Gd (tS l) := by
 refine ⟨?_, (by decide : (-9223372036854775808 : Int) ≤ 0), (by decide : (0 : Int) ≤ 9223372036854775807)⟩
 unfold mayT tS
 simp [h, Val.eq_self]
theorem gd_int {n : Int} (h : colB n = true) : Gd (intT n) := by
 unfold colB at h
 simp only [Bool.and_eq_true, decide_eq_true_eq] at h
 refine ⟨by kernel_rfl, ?_⟩
 unfold T64 intT iv
 simp only
 omega
theorem word_c100 : ∀ n, n < 100 → wordB (cWord n) = true := by decide +kernel
theorem gd_nd {x : Nd} (h : mayNd x = true) (h6 : N64 x) : ∀ t ∈ ndT x, Gd t := by
 obtain ⟨op, n, v⟩ := x
 unfold mayNd at h
 simp only at h
 unfold ndT
 simp only
 by_cases h0 : op = 0
 · subst h0
   simp only [if_true, Bool.and_eq_true] at h
   have hn := h.1
   unfold colB at hn
   simp only [Bool.and_eq_true, decide_eq_true_eq] at hn
   rw [if_neg (by decide), if_neg (by decide), if_pos rfl]
   intro t ht
   simp at ht
   subst ht
   exact gd_tW (word_c100 _ (by omega))
 · rw [if_neg h0] at h
   by_cases h1 : op = 1
   · subst h1
     simp only [if_true, Bool.and_eq_true] at h
     have hv := valid_of_may _ h.2
     rw [if_neg (by decide), if_pos rfl]
     split
     · intro t ht; simp at ht; subst ht; exact gd_tW (by decide)
     split
     · intro t ht; simp at ht; subst ht; exact gd_tW (by decide)
     split
     · intro t ht; simp at ht; subst ht; exact gd_tW (by decide)
     · rename_i n1 n2 n3
       intro t ht
       simp at ht
       subst ht
       refine ⟨?_, h6⟩
       have hk : v.k = 2 ∨ v.k = 3 := by
        rcases hv with ⟨h1, h2, h3⟩ | ⟨h1, h2, h3⟩ | ⟨h1, _⟩ | ⟨h1, _⟩
        · exact absurd (Val.eq_iff.2 (by cases v; simp_all [nl])) n1
        · rcases h2 with h2 | h2
          · exact absurd (Val.eq_iff.2 (by cases v; simp_all [ff])) n3
          · exact absurd (Val.eq_iff.2 (by cases v; simp_all [tt])) n2
        · exact .inl h1
        · exact .inr h1
       unfold mayT
       simp only
       rw [if_neg (by decide), if_pos (by decide)]
       rw [h.2]
       have he : emp.toList.isEmpty = true := by kernel_rfl
       rw [he]
       rcases hk with hk | hk <;> simp [hk]
   · rw [if_neg h1] at h
     simp only [Bool.and_eq_true, decide_eq_true_eq] at h
     obtain ⟨h2, h3, _⟩ := h
     have : op = 2 ∨ op = 3 ∨ op = 4 ∨ op = 5 ∨ op = 6 ∨ op = 7 ∨ op = 8 ∨ op = 9 ∨ op = 10 := by omega
     have a1 : Gd (tS s_pl) := gd_tS (by decide)
     have a2 : Gd (tS s_mi) := gd_tS (by decide)
     have a3 : Gd (tS s_st) := gd_tS (by decide)
     have a4 : Gd (tS s_eq) := gd_tS (by decide)
     have a5 : Gd (tS s_lt) := gd_tS (by decide)
     have a6 : Gd (tW w_and) := gd_tW (by decide)
     have a7 : Gd (tW w_or) := gd_tW (by decide)
     have a8 : Gd (tW w_not) := gd_tW (by decide)
     have a9 : Gd (tW w_null) := gd_tW (by decide)
     have a10 : Gd (tS s_qm) := gd_tS (by decide)
     rcases this with rfl | rfl | rfl | rfl | rfl | rfl | rfl | rfl | rfl <;> simp <;> simp [a1, a2, a3, a4, a5, a6, a7, a8, a9, a10]
theorem gd_expr {e : List Nd} (h : mayE e = true) (h6 : ∀ x ∈ e, N64 x) : ∀ t ∈ exprT e, Gd t := by
 unfold mayE at h
 simp only [Bool.and_eq_true, List.all_eq_true] at h
 intro t ht
 unfold exprT at ht
 simp only [List.mem_cons, List.mem_append, List.mem_flatMap, List.not_mem_nil, or_false] at ht
 rcases ht with rfl | ⟨x, hx, ht⟩ | rfl
 · exact gd_tS (by decide)
 · exact gd_nd (h.2 x hx) (h6 x hx) t ht
 · exact gd_tS (by decide)
theorem gd_sep {α : Type} {f : α → List Tk} : ∀ l : List α, (∀ a ∈ l, ∀ t ∈ f a, Gd t) → ∀ t ∈ sepT f l, Gd t
 | [], _, t, ht => by simp [sepT] at ht
 | a :: l, h, t, ht => by
   rw [sepT] at ht
   rcases List.mem_append.1 ht with ht | ht
   · exact h a (by simp) t ht
   · split at ht
     · simp at ht
     · rcases List.mem_cons.1 ht with rfl | ht
       · exact gd_tS (by decide)
       · exact gd_sep l (fun b hb => h b (List.mem_cons_of_mem _ hb)) t ht
theorem gd_cl {c : Cl} (h : mayCl c = true) : ∀ t ∈ clT c, Gd t := by
 unfold mayCl at h
 simp only [Bool.and_eq_true, decide_eq_true_eq] at h
 obtain ⟨h1, h2, h3, h4⟩ := h
 intro t ht
 unfold clT at ht
 simp only [List.mem_cons, List.mem_append] at ht
 rcases ht with rfl | rfl | ht | ht | ht
 · exact gd_tN h1
 · unfold kindW; split
   · exact gd_tW (by decide)
   split
   · exact gd_tW (by decide)
   · exact gd_tW (by decide)
 · split at ht <;> simp at ht
   subst ht; exact gd_tW (by decide)
 · split at ht <;> simp at ht
   subst ht; exact gd_tW (by decide)
 · split at ht
   · simp at ht
   · rename_i hr
     rw [if_neg hr] at h4
     simp only [Bool.and_eq_true] at h4
     simp at ht
     rcases ht with rfl | rfl | rfl
     · exact gd_tW (by decide)
     · exact gd_tN h4.1
     · unfold actW; split
       · exact gd_tW (by decide)
       split
       · exact gd_tW (by decide)
       · exact gd_tW (by decide)
theorem gd_ag {a : Ag} (h : mayAg a = true) : ∀ t ∈ agT a, Gd t := by
 unfold mayAg at h
 intro t ht
 unfold agT at ht
 rcases List.mem_cons.1 ht with rfl | ht
 · unfold fnW; split
   · exact gd_tW (by decide)
   split
   · exact gd_tW (by decide)
   split
   · exact gd_tW (by decide)
   · exact gd_tW (by decide)
 · split at ht
   · simp at ht
   · rename_i hf
     rw [if_neg hf] at h
     simp only [Bool.and_eq_true] at h
     simp at ht
     subst ht
     exact gd_int h.2.2
theorem toks_gd {d : Df} (h : MayD d) (h6 : D64 d) : ∀ t ∈ toksD d, Gd t := by
 obtain ⟨k, t, v⟩ := d
 rcases h with ⟨rfl, h1, rfl⟩ | ⟨rfl, rfl, h1⟩
 · unfold mayTb at h1
   simp only [Bool.and_eq_true, List.all_eq_true] at h1
   obtain ⟨a1, a2, a3, a4, a5, a6⟩ := h1
   intro u hu
   unfold toksD tbT at hu
   simp only [if_true, List.mem_cons, List.mem_append, List.mem_flatMap] at hu
   rcases hu with rfl | rfl | rfl | hu | rfl | ⟨e, he, rfl | hu⟩
   · exact gd_tW (by decide)
   · exact gd_tN a1
   · exact gd_tS (by decide)
   · exact gd_sep t.cols (fun c hc => gd_cl (a5 c hc)) u hu
   · exact gd_tS (by decide)
   · exact gd_tW (by decide)
   · exact gd_expr (a6 e he) (h6.1 e he) u hu
 · unfold mayVw at h1
   simp only [Bool.and_eq_true, List.all_eq_true] at h1
   obtain ⟨a1, a2, a3, a4, a5, a6, a7, a8, a9⟩ := h1
   intro u hu
   unfold toksD vwT at hu
   have n1 : ¬ (1 : Int) = 0 := by decide
   simp only [if_neg n1, List.mem_cons, List.mem_append] at hu
   rcases hu with rfl | rfl | rfl | rfl | hu | hu | rfl | hu | hu
   · exact gd_tW (by decide)
   · exact gd_tN a1
   · exact gd_tW (by decide)
   · exact gd_tN a2
   · split at hu
     · simp at hu
     · rename_i hw
       rw [if_neg hw] at a3
       simp only [Bool.and_eq_true] at a3
       simp at hu
       rcases hu with rfl | rfl | rfl | rfl | rfl | rfl
       · exact gd_tW (by decide)
       · exact gd_tN a3.1
       · exact gd_tW (by decide)
       · exact gd_int a3.2.1
       · exact gd_tS (by decide)
       · exact gd_int a3.2.2
   · split at hu
     · simp at hu
     · rcases List.mem_cons.1 hu with rfl | hu
       · exact gd_tW (by decide)
       · exact gd_expr a4 h6.2 u hu
   · exact gd_tW (by decide)
   · exact gd_sep v.pick (fun n hn t ht => by simp at ht; subst ht; exact gd_int (a6 n hn)) u hu
   · split at hu
     · rcases List.mem_cons.1 hu with rfl | hu
       · exact gd_tW (by decide)
       · exact gd_sep v.aggs (fun a ha => gd_ag (a8 a ha)) u hu
     · simp at hu
theorem print_read {d : Df} (h : MayD d) (h6 : D64 d) : (lexL (printL (toksD d))).bind parseD = some d := by
 have hg := toks_gd h h6
 rw [lex_print _ (fun t ht => (hg t ht).1) (fun t ht => (hg t ht).2)]
 exact parse_toks h
end Go.Proofs.YtamekagminbejaaGreatDoor
namespace Go.Proofs.YtamekagminbejaaGreatDoor
open Go
set_option maxRecDepth 100000
def sz : List Tk → Nat
 | [] => 0
 | t :: r => (txtT t).length + 1 + sz r
theorem sz_cons (t : Tk) (r : List Tk) : sz (t :: r) = (txtT t).length + 1 + sz r := rfl
theorem sz_app : ∀ l r : List Tk, sz (l ++ r) = sz l + sz r
 | [], r => by simp [sz]
 | t :: l, r => by rw [List.cons_append, sz_cons, sz_cons, sz_app l r]; omega
theorem sz_tW (l : List UInt8) : (txtT (tW l)).length = l.length := rfl
theorem sz_tS (l : List UInt8) : (txtT (tS l)).length = l.length := rfl
def G (l : List Tk) : Prop := ∀ t ∈ l, Gd t
theorem G.tail {t : Tk} {r : List Tk} (h : G (t :: r)) : G r := fun x hx => h x (List.mem_cons_of_mem _ hx)
theorem G.head {t : Tk} {r : List Tk} (h : G (t :: r)) : Gd t := h t (by simp)
theorem isW_len {s : List UInt8} {t : Tk} (h : isW s t = true) : (txtT t).length = s.length := by
 unfold isW at h
 simp only [Bool.and_eq_true, bne_iff_ne, ne_eq, beq_iff_eq] at h
 unfold txtT
 rw [if_neg (by simpa using h.1), h.2]
theorem name_acc {l r : List Tk} {b : ByteArray} (h : nameP l = some (b, r)) (hg : G l) : nameB b.data.toList = true ∧ G r ∧ sz [tN b] + sz r = sz l := by
 cases l with
 | nil => cases h
 | cons t q =>
   rw [nameP] at h
   split at h
   · rename_i hc
     simp only [Bool.and_eq_true, beq_iff_eq] at hc
     simp only [Option.some.injEq, Prod.mk.injEq] at h
     obtain ⟨rfl, rfl⟩ := h
     refine ⟨hc.2, hg.tail, ?_⟩
     have e : (txtT t).length = (txtT (tN t.t)).length := by
      unfold txtT tN
      rw [if_neg (by rw [hc.1]; decide), if_neg (by simp)]
     rw [sz_cons, sz_cons, e]
     simp [sz]
   · cases h
theorem col_acc {l r : List Tk} {n : Int} (h : colP l = some (n, r)) (hg : G l) : colB n = true ∧ G r ∧ sz [intT n] + sz r = sz l := by
 cases l with
 | nil => cases h
 | cons t q =>
   rw [colP] at h
   split at h
   · rename_i hc
     simp only [Bool.and_eq_true, beq_iff_eq] at hc
     simp only [Option.some.injEq, Prod.mk.injEq] at h
     obtain ⟨rfl, rfl⟩ := h
     refine ⟨by unfold colB; simp [hc.2.2.1, hc.2.2.2], hg.tail, ?_⟩
     have e : (txtT t).length = (txtT (intT t.v.n)).length := by
      unfold txtT intT
      rw [if_pos (by rw [hc.1]; decide), if_pos (by simp)]
      have hk := hc.2.1
      unfold textL
      rw [hk]
      rfl
     rw [sz_cons, sz_cons, e]
     simp [sz]
   · cases h
theorem need_acc {s : List UInt8} {l r : List Tk} (h : needP s l = some r) (hg : G l) : G r ∧ s.length + 1 + sz r = sz l := by
 cases l with
 | nil => cases h
 | cons t q =>
   rw [needP] at h
   split at h
   · rename_i hc
     simp only [Option.some.injEq] at h
     subst h
     exact ⟨hg.tail, by rw [sz_cons, isW_len hc]⟩
   · cases h
theorem take_acc (s : List UInt8) (l : List Tk) (hg : G l) : G (takeP s l).2 ∧ (if (takeP s l).1 then s.length + 1 else 0) + sz (takeP s l).2 = sz l := by
 cases l with
 | nil => exact ⟨hg, by simp [takeP, sz]⟩
 | cons t q =>
   rw [takeP]
   split
   · rename_i hc
     exact ⟨hg.tail, by simp [sz_cons, isW_len hc]⟩
   · exact ⟨hg, by simp⟩
theorem one3 {a b c : List UInt8} {l r : List Tk} {k : Int} (h : oneP [a, b, c] l = some (k, r)) (hg : G l) : G r ∧ ((k = 0 ∧ a.length + 1 + sz r = sz l) ∨ (k = 1 ∧ b.length + 1 + sz r = sz l) ∨ (k = 2 ∧ c.length + 1 + sz r = sz l)) := by
 cases l with
 | nil => cases h
 | cons t q =>
   rw [oneP] at h
   simp only [oneF] at h
   rw [sz_cons]
   split at h
   · rename_i hc
     simp at h
     obtain ⟨rfl, rfl⟩ := h
     exact ⟨hg.tail, .inl ⟨rfl, by rw [isW_len hc]⟩⟩
   split at h
   · rename_i hc
     simp at h
     obtain ⟨rfl, rfl⟩ := h
     exact ⟨hg.tail, .inr (.inl ⟨rfl, by rw [isW_len hc]⟩)⟩
   split at h
   · rename_i hc
     simp at h
     obtain ⟨rfl, rfl⟩ := h
     exact ⟨hg.tail, .inr (.inr ⟨rfl, by rw [isW_len hc]⟩)⟩
   · cases h
theorem one4 {a b c d : List UInt8} {l r : List Tk} {k : Int} (h : oneP [a, b, c, d] l = some (k, r)) (hg : G l) : G r ∧ ((k = 0 ∧ a.length + 1 + sz r = sz l) ∨ (k = 1 ∧ b.length + 1 + sz r = sz l) ∨ (k = 2 ∧ c.length + 1 + sz r = sz l) ∨ (k = 3 ∧ d.length + 1 + sz r = sz l)) := by
 cases l with
 | nil => cases h
 | cons t q =>
   rw [oneP] at h
   simp only [oneF] at h
   rw [sz_cons]
   split at h
   · rename_i hc
     simp at h
     obtain ⟨rfl, rfl⟩ := h
     exact ⟨hg.tail, .inl ⟨rfl, by rw [isW_len hc]⟩⟩
   split at h
   · rename_i hc
     simp at h
     obtain ⟨rfl, rfl⟩ := h
     exact ⟨hg.tail, .inr (.inl ⟨rfl, by rw [isW_len hc]⟩)⟩
   split at h
   · rename_i hc
     simp at h
     obtain ⟨rfl, rfl⟩ := h
     exact ⟨hg.tail, .inr (.inr (.inl ⟨rfl, by rw [isW_len hc]⟩))⟩
   split at h
   · rename_i hc
     simp at h
     obtain ⟨rfl, rfl⟩ := h
     exact ⟨hg.tail, .inr (.inr (.inr ⟨rfl, by rw [isW_len hc]⟩))⟩
   · cases h
theorem one2 {a b : List UInt8} {l r : List Tk} {k : Int} (h : oneP [a, b] l = some (k, r)) (hg : G l) : G r ∧ ((k = 0 ∧ a.length + 1 + sz r = sz l) ∨ (k = 1 ∧ b.length + 1 + sz r = sz l)) := by
 cases l with
 | nil => cases h
 | cons t q =>
   rw [oneP] at h
   simp only [oneF] at h
   rw [sz_cons]
   split at h
   · rename_i hc
     simp at h
     obtain ⟨rfl, rfl⟩ := h
     exact ⟨hg.tail, .inl ⟨rfl, by rw [isW_len hc]⟩⟩
   split at h
   · rename_i hc
     simp at h
     obtain ⟨rfl, rfl⟩ := h
     exact ⟨hg.tail, .inr ⟨rfl, by rw [isW_len hc]⟩⟩
   · cases h
theorem op_acc {t : Tk} {i : Int} (h : oneF opWs 2 t = some i) : mayNd ⟨i, 0, nl⟩ = true ∧ N64 ⟨i, 0, nl⟩ ∧ sz (ndT ⟨i, 0, nl⟩) = (txtT t).length + 1 := by
 have hn : N64 ⟨i, 0, nl⟩ := ⟨(by decide : (-9223372036854775808 : Int) ≤ 0), (by decide : (0 : Int) ≤ 9223372036854775807)⟩
 unfold opWs at h
 simp only [oneF] at h
 repeat' split at h
 all_goals first
  | (cases h; done)
  | (rename_i hc
     simp only [Option.some.injEq] at h
     subst h
     refine ⟨by kernel_rfl, hn, ?_⟩
     rw [isW_len hc]
     rfl)
theorem step_acc {l r : List Tk} {x : Nd} (h : stepP l = some (x, r)) (hg : G l) : mayNd x = true ∧ N64 x ∧ G r ∧ sz (ndT x) + sz r = sz l := by
 have z0 : (-9223372036854775808 : Int) ≤ 0 := by decide
 have z1 : (0 : Int) ≤ 9223372036854775807 := by decide
 cases l with
 | nil => cases h
 | cons t q =>
   rw [stepP] at h
   have hq := take_acc s_qm q hg.tail
   split at h
   · rename_i hc
     split at h
     · rename_i hq1
       simp only [Option.some.injEq, Prod.mk.injEq] at h
       obtain ⟨rfl, rfl⟩ := h
       refine ⟨by kernel_rfl, ⟨z0, z1⟩, hq.1, ?_⟩
       have h2 := hq.2
       rw [hq1] at h2
       rw [sz_cons, isW_len hc, ← h2]
       show sz [tW w_null, tS s_qm] + _ = _
       simp only [sz, sz_tW, sz_tS, if_true]
       omega
     · simp only [Option.some.injEq, Prod.mk.injEq] at h
       obtain ⟨rfl, rfl⟩ := h
       refine ⟨by kernel_rfl, ⟨z0, z1⟩, hg.tail, ?_⟩
       rw [sz_cons, isW_len hc]
       have e : ndT ⟨1, 0, nl⟩ = [tW w_null] := by kernel_rfl
       rw [e]
       simp only [sz, sz_tW]
   split at h
   · rename_i hc
     simp only [Option.some.injEq, Prod.mk.injEq] at h
     obtain ⟨rfl, rfl⟩ := h
     refine ⟨by kernel_rfl, ⟨(by decide : (-9223372036854775808 : Int) ≤ 1), (by decide : (1 : Int) ≤ 9223372036854775807)⟩, hg.tail, ?_⟩
     rw [sz_cons, isW_len hc]
     have e : ndT ⟨1, 0, tt⟩ = [tW w_true] := by kernel_rfl
     rw [e]
     simp only [sz, sz_tW]
   split at h
   · rename_i hc
     simp only [Option.some.injEq, Prod.mk.injEq] at h
     obtain ⟨rfl, rfl⟩ := h
     refine ⟨by kernel_rfl, ⟨z0, z1⟩, hg.tail, ?_⟩
     rw [sz_cons, isW_len hc]
     have e : ndT ⟨1, 0, ff⟩ = [tW w_false] := by kernel_rfl
     rw [e]
     simp only [sz, sz_tW]
   split at h
   · rename_i i hi
     simp only [Option.some.injEq, Prod.mk.injEq] at h
     obtain ⟨rfl, rfl⟩ := h
     obtain ⟨h1, h2, h3⟩ := op_acc hi
     exact ⟨h1, h2, hg.tail, by rw [sz_cons, h3]⟩
   split at h
   · rename_i hk
     simp only [Option.some.injEq, Prod.mk.injEq] at h
     obtain ⟨rfl, rfl⟩ := h
     obtain ⟨hm, h6⟩ := hg.head
     obtain ⟨k, s, v⟩ := t
     simp only [beq_iff_eq] at hk
     subst hk
     unfold mayT at hm
     simp only at hm
     rw [if_neg (by decide), if_pos (by decide)] at hm
     simp only [Bool.and_eq_true, Bool.or_eq_true, beq_iff_eq] at hm
     obtain ⟨hs, hk, hv⟩ := hm
     refine ⟨by unfold mayNd; simp [hv], h6, hg.tail, ?_⟩
     have e : ndT ⟨1, 0, v⟩ = [⟨1, emp, v⟩] := by
      unfold ndT
      have n1 : v ≠ nl := fun e => by rw [e] at hk; simp [nl] at hk
      have n2 : v ≠ tt := fun e => by rw [e] at hk; simp [tt] at hk
      have n3 : v ≠ ff := fun e => by rw [e] at hk; simp [ff] at hk
      rw [if_neg (by simp), if_pos rfl]
      simp only [Val.eq_false n1, Val.eq_false n2, Val.eq_false n3]
      rfl
     rw [e]
     simp only [sz]
     rfl
   split at h
   · rename_i hk
     cases hcn : cnum t.t.data.toList with
     | none => rw [hcn] at h; cases h
     | some n =>
       rw [hcn] at h
       simp only [Option.map_some, Option.some.injEq, Prod.mk.injEq] at h
       obtain ⟨rfl, rfl⟩ := h
       obtain ⟨hn, hl⟩ := cnum_lt hcn
       refine ⟨?_, ⟨z0, z1⟩, hg.tail, ?_⟩
       · unfold mayNd colB
         simp only [if_true, Bool.and_eq_true, decide_eq_true_eq]
         exact ⟨⟨by omega, by omega⟩, Val.eq_self _⟩
       · have e : ndT ⟨0, n, nl⟩ = [tW (cWord n)] := by
          unfold ndT
          rw [if_neg (by simp), if_neg (by simp), if_pos rfl, Int.toNat_natCast]
         rw [e, sz_cons]
         simp only [sz, sz_tW]
         have e2 : (txtT t).length = (cWord n).length := by
          unfold txtT
          rw [if_neg (by simp only [beq_iff_eq] at hk; rw [hk]; decide), hl]
         omega
   · cases h
theorem exprF_acc : ∀ (n : Nat) (l r : List Tk) (e : List Nd), exprF n l = some (e, r) → G l → (∀ x ∈ e, mayNd x = true ∧ N64 x) ∧ G r ∧ sz (e.flatMap ndT) + 2 + sz r = sz l
 | 0, _, _, _, h, _ => by cases h
 | n + 1, [], _, _, h, _ => by cases h
 | n + 1, t :: q, r, e, h, hg => by
   rw [exprF] at h
   split at h
   · rename_i hc
     simp only [Option.some.injEq, Prod.mk.injEq] at h
     obtain ⟨rfl, rfl⟩ := h
     refine ⟨fun x hx => (by cases hx), hg.tail, ?_⟩
     rw [sz_cons, isW_len hc]
     simp [sz, s_rb]
   · cases hs : stepP (t :: q) with
     | none => rw [hs] at h; cases h
     | some p =>
       obtain ⟨x, q1⟩ := p
       rw [hs] at h
       simp only [Option.bind_some] at h
       cases he : exprF n q1 with
       | none => rw [he] at h; cases h
       | some p2 =>
         obtain ⟨e2, q2⟩ := p2
         rw [he] at h
         simp only [Option.map_some, Option.some.injEq, Prod.mk.injEq] at h
         obtain ⟨rfl, rfl⟩ := h
         obtain ⟨h1, h2, h3, h4⟩ := step_acc hs hg
         obtain ⟨k1, k2, k3⟩ := exprF_acc n q1 q2 e2 he h3
         refine ⟨fun y hy => ?_, k2, ?_⟩
         · rcases List.mem_cons.1 hy with rfl | hy
           · exact ⟨h1, h2⟩
           · exact k1 y hy
         · rw [List.flatMap_cons, sz_app]
           omega
theorem expr_acc {l r : List Tk} {e : List Nd} (h : exprP l = some (e, r)) (hg : G l) : mayE e = true ∧ (∀ x ∈ e, N64 x) ∧ G r ∧ sz (exprT e) + sz r = sz l := by
 unfold exprP at h
 cases hn : needP s_lb l with
 | none => rw [hn] at h; cases h
 | some q =>
   rw [hn] at h
   simp only [Option.bind_some] at h
   obtain ⟨hg2, hz⟩ := need_acc hn hg
   cases he : exprF (q.length + 1) q with
   | none => rw [he] at h; cases h
   | some p =>
     rw [he] at h
     simp only [Option.bind_some] at h
     split at h
     · rename_i hl
       simp only [Option.some.injEq] at h
       subst h
       obtain ⟨h1, h2, h3⟩ := exprF_acc _ _ _ _ he hg2
       refine ⟨?_, fun x hx => (h1 x hx).2, h2, ?_⟩
       · unfold mayE
         simp only [Bool.and_eq_true, decide_eq_true_eq, List.all_eq_true]
         exact ⟨hl, fun x hx => (h1 x hx).1⟩
       · unfold exprT
         rw [sz_cons, sz_app]
         simp only [sz, sz_tS, s_lb, s_rb, List.length_cons, List.length_nil] at hz ⊢
         omega
     · cases h
theorem sepF_acc {α : Type} {p : List Tk → Option (α × List Tk)} {f : α → List Tk} {V : α → Prop} (hp : ∀ l r a, p l = some (a, r) → G l → V a ∧ G r ∧ sz (f a) + sz r = sz l) :
 ∀ (n : Nat) (l r : List Tk) (xs : List α), sepF p n l = some (xs, r) → G l → xs ≠ [] ∧ (∀ a ∈ xs, V a) ∧ G r ∧ sz (sepT f xs) + sz r = sz l
 | 0, _, _, _, h, _ => by cases h
 | n + 1, l, r, xs, h, hg => by
   rw [sepF] at h
   cases hs : p l with
   | none => rw [hs] at h; cases h
   | some q =>
     obtain ⟨a, q1⟩ := q
     rw [hs] at h
     simp only [Option.bind_some] at h
     obtain ⟨h1, h2, h3⟩ := hp _ _ _ hs hg
     obtain ⟨t1, t2⟩ := take_acc s_cm q1 h2
     split at h
     · rename_i hc
       cases he : sepF p n (takeP s_cm q1).2 with
       | none => rw [he] at h; cases h
       | some p2 =>
         obtain ⟨xs2, q2⟩ := p2
         rw [he] at h
         simp only [Option.map_some, Option.some.injEq, Prod.mk.injEq] at h
         obtain ⟨rfl, rfl⟩ := h
         obtain ⟨k0, k1, k2, k3⟩ := sepF_acc hp n _ _ _ he t1
         refine ⟨by simp, fun b hb => ?_, k2, ?_⟩
         · rcases List.mem_cons.1 hb with rfl | hb
           · exact h1
           · exact k1 b hb
         · rw [sepT]
           cases xs2 with
           | nil => exact absurd rfl k0
           | cons b bs =>
             simp only [List.isEmpty_cons, Bool.false_eq_true, if_false]
             rw [sz_app, sz_cons, sz_tS]
             rw [hc] at t2
             simp only [if_true] at t2
             omega
     · simp only [Option.some.injEq, Prod.mk.injEq] at h
       obtain ⟨rfl, rfl⟩ := h
       refine ⟨by simp, fun b hb => by simp at hb; rw [hb]; exact h1, h2, ?_⟩
       simp [sepT, h3]
theorem column_acc {l r : List Tk} {c : Cl} (h : columnP l = some (c, r)) (hg : G l) : mayCl c = true ∧ G r ∧ sz (clT c) + sz r = sz l := by
 unfold columnP at h
 cases hn : nameP l with
 | none => rw [hn] at h; cases h
 | some a =>
   obtain ⟨nm, q1⟩ := a
   rw [hn] at h
   simp only [Option.bind_some] at h
   obtain ⟨n1, n2, n3⟩ := name_acc hn hg
   cases hk : oneP [w_bool, w_int, w_text] q1 with
   | none => rw [hk] at h; cases h
   | some b =>
     obtain ⟨k, q2⟩ := b
     rw [hk] at h
     simp only [Option.bind_some] at h
     obtain ⟨k1, k2⟩ := one3 hk n2
     have hkz : 0 ≤ k ∧ k ≤ 2 ∧ sz [tW (kindW (k + 1))] + sz q2 = sz q1 := by
      rcases k2 with ⟨rfl, h2⟩ | ⟨rfl, h2⟩ | ⟨rfl, h2⟩
      · exact ⟨by decide, by decide, by rw [← h2]; rfl⟩
      · exact ⟨by decide, by decide, by rw [← h2]; rfl⟩
      · exact ⟨by decide, by decide, by rw [← h2]; rfl⟩
     obtain ⟨z0, z2, hkz⟩ := hkz
     obtain ⟨u1, u2⟩ := take_acc w_null q2 k1
     generalize takeP w_null q2 = T1 at h u1 u2
     obtain ⟨b1, q3⟩ := T1
     simp only at h u1 u2
     obtain ⟨v1, v2⟩ := take_acc w_unique q3 u1
     generalize takeP w_unique q3 = T2 at h v1 v2
     obtain ⟨b2, q4⟩ := T2
     simp only at h v1 v2
     obtain ⟨x1, x2⟩ := take_acc w_ref q4 v1
     have hb1 : sz (if b1 then [tW w_null] else []) = if b1 then w_null.length + 1 else 0 := by cases b1 <;> rfl
     have hb2 : sz (if b2 then [tW w_unique] else []) = if b2 then w_unique.length + 1 else 0 := by cases b2 <;> rfl
     split at h
     · rename_i hr
       rw [hr] at x2
       simp only [if_true] at x2
       cases hm : nameP (takeP w_ref q4).2 with
       | none => rw [hm] at h; cases h
       | some c1 =>
         obtain ⟨rf, q5⟩ := c1
         rw [hm] at h
         simp only [Option.bind_some] at h
         obtain ⟨m1, m2, m3⟩ := name_acc hm x1
         cases ho : oneP [w_restrict, w_cascade, w_setnull] q5 with
         | none => rw [ho] at h; cases h
         | some d1 =>
           obtain ⟨ac, q6⟩ := d1
           rw [ho] at h
           simp only [Option.map_some, Option.some.injEq, Prod.mk.injEq] at h
           obtain ⟨rfl, rfl⟩ := h
           obtain ⟨o1, o2⟩ := one3 ho m2
           have hoz : 0 ≤ ac ∧ ac ≤ 2 ∧ sz [tW (actW ac)] + sz q6 = sz q5 := by
            rcases o2 with ⟨rfl, h2⟩ | ⟨rfl, h2⟩ | ⟨rfl, h2⟩
            · exact ⟨by decide, by decide, by rw [← h2]; rfl⟩
            · exact ⟨by decide, by decide, by rw [← h2]; rfl⟩
            · exact ⟨by decide, by decide, by rw [← h2]; rfl⟩
           have hre : rf.toList.isEmpty = false := by
            cases e : rf.toList.isEmpty
            · rfl
            · have := emp_eq e
              subst this
              exact absurd m1 (by decide)
           refine ⟨?_, o1, ?_⟩
           · unfold mayCl
             simp only [hre, Bool.and_eq_true, decide_eq_true_eq, Bool.false_eq_true, if_false]
             exact ⟨n1, by omega, by omega, m1, hoz.1, hoz.2.1⟩
           · unfold clT
             simp only [hre, Bool.false_eq_true, if_false]
             rw [sz_cons, sz_cons, sz_app, sz_app, hb1, hb2]
             have e1 : sz [tW w_ref, tN rf, tW (actW ac)] = w_ref.length + 1 + sz [tN rf] + sz [tW (actW ac)] := by simp [sz, sz_tW]; omega
             have e2 : sz [tN nm] = (txtT (tN nm)).length + 1 := by simp [sz]
             have e3 : sz [tW (kindW (k + 1))] = (txtT (tW (kindW (k + 1)))).length + 1 := by simp [sz]
             rw [e1]
             omega
     · rename_i hr
       simp only [Option.some.injEq, Prod.mk.injEq] at h
       obtain ⟨rfl, rfl⟩ := h
       have hre : emp.toList.isEmpty = true := by kernel_rfl
       refine ⟨?_, v1, ?_⟩
       · unfold mayCl
         simp only [hre, Bool.and_eq_true, decide_eq_true_eq, if_true]
         exact ⟨n1, by omega, by omega, trivial⟩
       · unfold clT
         simp only [hre, if_true, List.append_nil]
         rw [sz_cons, sz_cons, sz_app, hb1, hb2]
         have e2 : sz [tN nm] = (txtT (tN nm)).length + 1 := by simp [sz]
         have e3 : sz [tW (kindW (k + 1))] = (txtT (tW (kindW (k + 1)))).length + 1 := by simp [sz]
         omega
theorem checksF_acc : ∀ (n : Nat) (l r : List Tk) (es : List (List Nd)), checksF n l = some (es, r) → G l → (∀ e ∈ es, mayE e = true ∧ ∀ x ∈ e, N64 x) ∧ G r ∧ sz (es.flatMap fun e => tW w_check :: exprT e) + sz r = sz l
 | 0, _, _, _, h, _ => by cases h
 | n + 1, l, r, es, h, hg => by
   rw [checksF] at h
   obtain ⟨t1, t2⟩ := take_acc w_check l hg
   split at h
   · rename_i hc
     rw [hc] at t2
     simp only [if_true] at t2
     cases he : exprP (takeP w_check l).2 with
     | none => rw [he] at h; cases h
     | some p =>
       obtain ⟨e, q⟩ := p
       rw [he] at h
       simp only [Option.bind_some] at h
       obtain ⟨e1, e2, e3, e4⟩ := expr_acc he t1
       cases hk : checksF n q with
       | none => rw [hk] at h; cases h
       | some p2 =>
         obtain ⟨es2, q2⟩ := p2
         rw [hk] at h
         simp only [Option.map_some, Option.some.injEq, Prod.mk.injEq] at h
         obtain ⟨rfl, rfl⟩ := h
         obtain ⟨k1, k2, k3⟩ := checksF_acc n q q2 es2 hk e3
         refine ⟨fun y hy => ?_, k2, ?_⟩
         · rcases List.mem_cons.1 hy with rfl | hy
           · exact ⟨e1, e2⟩
           · exact k1 y hy
         · rw [List.flatMap_cons, List.cons_append, sz_cons, sz_app, sz_tW]
           omega
   · simp only [Option.some.injEq, Prod.mk.injEq] at h
     obtain ⟨rfl, rfl⟩ := h
     exact ⟨fun x hx => (by cases hx), hg, by simp [sz]⟩
theorem table_acc {l r : List Tk} {t : Tb} (h : tableP l = some (t, r)) (hg : G l) : mayTb t = true ∧ (∀ e ∈ t.checks, ∀ x ∈ e, N64 x) ∧ G r ∧ sz (tbT t) + sz r = sz l := by
 unfold tableP at h
 cases hn : nameP l with
 | none => rw [hn] at h; cases h
 | some a =>
   obtain ⟨nm, q1⟩ := a
   rw [hn] at h
   simp only [Option.bind_some] at h
   obtain ⟨n1, n2, n3⟩ := name_acc hn hg
   cases hl : needP s_lp q1 with
   | none => rw [hl] at h; cases h
   | some q2 =>
     rw [hl] at h
     simp only [Option.bind_some] at h
     obtain ⟨l1, l2⟩ := need_acc hl n2
     cases hc : sepP columnP q2 with
     | none => rw [hc] at h; cases h
     | some b =>
       obtain ⟨cols, q3⟩ := b
       rw [hc] at h
       simp only [Option.bind_some] at h
       obtain ⟨c0, c1, c2, c3⟩ := sepF_acc (f := clT) (V := fun c => mayCl c = true) (fun l r a ha hg => column_acc ha hg) _ _ _ _ hc l1
       cases hr : needP s_rp q3 with
       | none => rw [hr] at h; cases h
       | some q4 =>
         rw [hr] at h
         simp only [Option.bind_some] at h
         obtain ⟨r1, r2⟩ := need_acc hr c2
         cases hk : checksF (q4.length + 1) q4 with
         | none => rw [hk] at h; cases h
         | some b2 =>
           obtain ⟨cks, q5⟩ := b2
           rw [hk] at h
           simp only [Option.bind_some] at h
           obtain ⟨k1, k2, k3⟩ := checksF_acc _ _ _ _ hk r1
           split at h
           · rename_i hle
             simp only [Option.some.injEq, Prod.mk.injEq] at h
             obtain ⟨rfl, rfl⟩ := h
             refine ⟨?_, fun e he => (k1 e he).2, k2, ?_⟩
             · unfold mayTb
               simp only [Bool.and_eq_true, decide_eq_true_eq, List.all_eq_true, Bool.not_eq_true', List.isEmpty_eq_false_iff]
               exact ⟨n1, c0, hle.1, hle.2, c1, fun e he => (k1 e he).1⟩
             · unfold tbT
               have e2 : sz [tN nm] = (txtT (tN nm)).length + 1 := by simp [sz]
               simp only [sz_cons, sz_app, sz_tS]
               omega
           · cases h
theorem agg_acc {l r : List Tk} {a : Ag} (h : aggP l = some (a, r)) (hg : G l) : mayAg a = true ∧ G r ∧ sz (agT a) + sz r = sz l := by
 unfold aggP at h
 cases hf : oneP [w_count, w_sum, w_min, w_max] l with
 | none => rw [hf] at h; cases h
 | some p =>
   obtain ⟨f, q⟩ := p
   rw [hf] at h
   simp only [Option.bind_some] at h
   obtain ⟨g1, g2⟩ := one4 hf hg
   have hfz : 0 ≤ f ∧ f ≤ 3 ∧ sz [tW (fnW f)] + sz q = sz l := by
    rcases g2 with ⟨rfl, h2⟩ | ⟨rfl, h2⟩ | ⟨rfl, h2⟩ | ⟨rfl, h2⟩
    · exact ⟨by decide, by decide, by rw [← h2]; rfl⟩
    · exact ⟨by decide, by decide, by rw [← h2]; rfl⟩
    · exact ⟨by decide, by decide, by rw [← h2]; rfl⟩
    · exact ⟨by decide, by decide, by rw [← h2]; rfl⟩
   have e1 : sz [tW (fnW f)] = (txtT (tW (fnW f))).length + 1 := by simp [sz]
   split at h
   · rename_i h0
     simp only [Option.some.injEq, Prod.mk.injEq] at h
     obtain ⟨rfl, rfl⟩ := h
     subst h0
     refine ⟨by kernel_rfl, g1, ?_⟩
     unfold agT
     simp only [if_true]
     exact hfz.2.2
   · rename_i h0
     cases hc : colP q with
     | none => rw [hc] at h; cases h
     | some p2 =>
       obtain ⟨c, q2⟩ := p2
       rw [hc] at h
       simp only [Option.map_some, Option.some.injEq, Prod.mk.injEq] at h
       obtain ⟨rfl, rfl⟩ := h
       obtain ⟨c1, c2, c3⟩ := col_acc hc g1
       refine ⟨?_, c2, ?_⟩
       · unfold mayAg
         simp only [if_neg h0, Bool.and_eq_true, decide_eq_true_eq]
         exact ⟨hfz.1, hfz.2.1, c1⟩
       · unfold agT
         simp only [if_neg h0]
         rw [sz_cons]
         omega
def joinB (w : ByteArray) (a b : Int) : Bool := if w.toList.isEmpty then decide (a = 0) && decide (b = 0) else nameB w.data.toList && (colB a && colB b)
def joinT (w : ByteArray) (a b : Int) : List Tk := if w.toList.isEmpty then [] else [tW w_join, tN w, tW w_on, intT a, tS s_eq, intT b]
theorem join_acc {l r : List Tk} {w : ByteArray} {a b : Int} (h : joinP l = some ((w, a, b), r)) (hg : G l) : joinB w a b = true ∧ G r ∧ sz (joinT w a b) + sz r = sz l := by
 unfold joinP at h
 obtain ⟨t1, t2⟩ := take_acc w_join l hg
 split at h
 · rename_i hc
   rw [hc] at t2
   simp only [if_true] at t2
   cases hn : nameP (takeP w_join l).2 with
   | none => rw [hn] at h; cases h
   | some p =>
     obtain ⟨nm, q1⟩ := p
     rw [hn] at h
     simp only [Option.bind_some] at h
     obtain ⟨n1, n2, n3⟩ := name_acc hn t1
     cases ho : needP w_on q1 with
     | none => rw [ho] at h; cases h
     | some q2 =>
       rw [ho] at h
       simp only [Option.bind_some] at h
       obtain ⟨o1, o2⟩ := need_acc ho n2
       cases hx : colP q2 with
       | none => rw [hx] at h; cases h
       | some p3 =>
         obtain ⟨x, q3⟩ := p3
         rw [hx] at h
         simp only [Option.bind_some] at h
         obtain ⟨x1, x2, x3⟩ := col_acc hx o1
         cases he : needP s_eq q3 with
         | none => rw [he] at h; cases h
         | some q4 =>
           rw [he] at h
           simp only [Option.bind_some] at h
           obtain ⟨e1, e2⟩ := need_acc he x2
           cases hy : colP q4 with
           | none => rw [hy] at h; cases h
           | some p5 =>
             obtain ⟨y, q5⟩ := p5
             rw [hy] at h
             simp only [Option.map_some, Option.some.injEq, Prod.mk.injEq] at h
             obtain ⟨⟨rfl, rfl, rfl⟩, rfl⟩ := h
             obtain ⟨y1, y2, y3⟩ := col_acc hy e1
             have hre : nm.toList.isEmpty = false := by
              cases e : nm.toList.isEmpty
              · rfl
              · have := emp_eq e
                subst this
                exact absurd n1 (by decide)
             refine ⟨?_, y2, ?_⟩
             · unfold joinB
               simp only [hre, Bool.false_eq_true, if_false, Bool.and_eq_true]
               exact ⟨n1, x1, y1⟩
             · unfold joinT
               simp only [hre, Bool.false_eq_true, if_false]
               have k1 : sz [tN nm] = (txtT (tN nm)).length + 1 := by simp [sz]
               have k2 : sz [intT x] = (txtT (intT x)).length + 1 := by simp [sz]
               have k3 : sz [intT y] = (txtT (intT y)).length + 1 := by simp [sz]
               simp only [sz_cons, sz_tW, sz_tS]
               simp only [sz] at *
               omega
 · simp only [Option.some.injEq, Prod.mk.injEq] at h
   obtain ⟨⟨rfl, rfl, rfl⟩, rfl⟩ := h
   exact ⟨by kernel_rfl, hg, by have e : joinT emp 0 0 = [] := by kernel_rfl
                                rw [e]; simp [sz]⟩
theorem where_acc {l r : List Tk} {e : List Nd} (h : whereP l = some (e, r)) (hg : G l) : mayE e = true ∧ (∀ x ∈ e, N64 x) ∧ G r ∧ sz (if e.isEmpty then [] else tW w_where :: exprT e) + sz r ≤ sz l := by
 unfold whereP at h
 obtain ⟨t1, t2⟩ := take_acc w_where l hg
 split at h
 · rename_i hc
   rw [hc] at t2
   simp only [if_true] at t2
   obtain ⟨e1, e2, e3, e4⟩ := expr_acc h t1
   refine ⟨e1, e2, e3, ?_⟩
   split
   · simp only [sz]; omega
   · rw [sz_cons, sz_tW]; omega
 · simp only [Option.some.injEq, Prod.mk.injEq] at h
   obtain ⟨rfl, rfl⟩ := h
   exact ⟨rfl, fun x hx => (by cases hx), hg, by simp [sz]⟩
theorem picks_acc {l r : List Tk} {pk : List Int} (h : picksP l = some (pk, r)) (hg : G l) : (∀ n ∈ pk, colB n = true) ∧ G r ∧ sz (sepT (fun n => [intT n]) pk) + sz r = sz l := by
 unfold picksP at h
 split at h
 · simp only [Option.some.injEq, Prod.mk.injEq] at h
   obtain ⟨rfl, rfl⟩ := h
   exact ⟨fun x hx => (by cases hx), hg, by simp [sepT, sz]⟩
 · obtain ⟨_, c1, c2, c3⟩ := sepF_acc (f := fun n => [intT n]) (V := fun n => colB n = true) (fun l r a ha hg => col_acc ha hg) _ _ _ _ h hg
   exact ⟨c1, c2, c3⟩
theorem aggs_acc {l r : List Tk} {g : Bool} {ag : List Ag} (h : aggsP l = some ((g, ag), r)) (hg : G l) : (∀ a ∈ ag, mayAg a = true) ∧ (g || ag.isEmpty) = true ∧ G r ∧ sz (grpT g ag) + sz r = sz l := by
 unfold aggsP at h
 obtain ⟨t1, t2⟩ := take_acc w_group l hg
 split at h
 · rename_i hc
   rw [hc] at t2
   simp only [if_true] at t2
   split at h
   · rename_i he
     simp only [Option.some.injEq, Prod.mk.injEq] at h
     obtain ⟨⟨rfl, rfl⟩, rfl⟩ := h
     have := List.isEmpty_iff.1 he
     rw [this] at t2
     refine ⟨fun x hx => (by cases hx), rfl, fun x hx => (by cases hx), ?_⟩
     rw [← t2]
     rfl
   · cases hs : sepP aggP (takeP w_group l).2 with
     | none => rw [hs] at h; cases h
     | some p =>
       obtain ⟨a2, q⟩ := p
       rw [hs] at h
       simp only [Option.map_some, Option.some.injEq, Prod.mk.injEq] at h
       obtain ⟨⟨rfl, rfl⟩, rfl⟩ := h
       obtain ⟨_, c1, c2, c3⟩ := sepF_acc (f := agT) (V := fun a => mayAg a = true) (fun l r a ha hg => agg_acc ha hg) _ _ _ _ hs t1
       refine ⟨c1, rfl, c2, ?_⟩
       unfold grpT
       simp only [if_true]
       rw [sz_cons, sz_tW]
       omega
 · simp only [Option.some.injEq, Prod.mk.injEq] at h
   obtain ⟨⟨rfl, rfl⟩, rfl⟩ := h
   exact ⟨fun x hx => (by cases hx), rfl, hg, by simp [grpT, sz]⟩
theorem view_acc {l r : List Tk} {v : Vw} (h : viewP l = some (v, r)) (hg : G l) : mayVw v = true ∧ (∀ x ∈ v.whr, N64 x) ∧ G r ∧ sz (vwT v) + sz r ≤ sz l := by
 unfold viewP at h
 cases hn : nameP l with
 | none => rw [hn] at h; cases h
 | some a =>
   obtain ⟨nm, q1⟩ := a
   rw [hn] at h
   simp only [Option.bind_some] at h
   obtain ⟨n1, n2, n3⟩ := name_acc hn hg
   cases hf : needP w_from q1 with
   | none => rw [hf] at h; cases h
   | some q2 =>
     rw [hf] at h
     simp only [Option.bind_some] at h
     obtain ⟨f1, f2⟩ := need_acc hf n2
     cases hm : nameP q2 with
     | none => rw [hm] at h; cases h
     | some b =>
       obtain ⟨fr, q3⟩ := b
       rw [hm] at h
       simp only [Option.bind_some] at h
       obtain ⟨m1, m2, m3⟩ := name_acc hm f1
       cases hj : joinP q3 with
       | none => rw [hj] at h; cases h
       | some c =>
         obtain ⟨⟨wt, x, y⟩, q4⟩ := c
         rw [hj] at h
         simp only [Option.bind_some] at h
         obtain ⟨j1, j2, j3⟩ := join_acc hj m2
         cases hw : whereP q4 with
         | none => rw [hw] at h; cases h
         | some d =>
           obtain ⟨e, q5⟩ := d
           rw [hw] at h
           simp only [Option.bind_some] at h
           obtain ⟨w1, w2, w3, w4⟩ := where_acc hw j2
           cases hp : needP w_pick q5 with
           | none => rw [hp] at h; cases h
           | some q6 =>
             rw [hp] at h
             simp only [Option.bind_some] at h
             obtain ⟨p1, p2⟩ := need_acc hp w3
             cases hk : picksP q6 with
             | none => rw [hk] at h; cases h
             | some g0 =>
               obtain ⟨pk, q7⟩ := g0
               rw [hk] at h
               simp only [Option.bind_some] at h
               obtain ⟨k1, k2, k3⟩ := picks_acc hk p1
               cases hq : aggsP q7 with
               | none => rw [hq] at h; cases h
               | some g3 =>
                 obtain ⟨⟨gr, ag⟩, q8⟩ := g3
                 rw [hq] at h
                 simp only [Option.bind_some] at h
                 obtain ⟨a1, a2, a3, a4⟩ := aggs_acc hq k2
                 split at h
                 · rename_i hle
                   simp only [Option.some.injEq, Prod.mk.injEq] at h
                   obtain ⟨rfl, rfl⟩ := h
                   refine ⟨?_, w2, a3, ?_⟩
                   · unfold mayVw
                     simp only [Bool.and_eq_true, decide_eq_true_eq, List.all_eq_true]
                     exact ⟨n1, m1, j1, w1, hle.1, k1, hle.2, a1, a2⟩
                   · have k1 : sz [tN nm] = (txtT (tN nm)).length + 1 := by simp [sz]
                     have k2 : sz [tN fr] = (txtT (tN fr)).length + 1 := by simp [sz]
                     have hv : vwT ⟨nm, fr, wt, x, y, e, pk, gr, ag⟩ = tN nm :: tW w_from :: tN fr :: (joinT wt x y ++ ((if e.isEmpty then [] else tW w_where :: exprT e) ++ tW w_pick :: (sepT (fun n => [intT n]) pk ++ grpT gr ag))) := rfl
                     rw [hv]
                     simp only [sz_cons, sz_app, sz_tW]
                     omega
                 · cases h
theorem parse_acc {l : List Tk} {d : Df} (h : parseD l = some d) (hg : G l) : MayD d ∧ D64 d ∧ sz (toksD d) ≤ sz l := by
 unfold parseD at h
 cases ho : oneP [w_table, w_view] l with
 | none => rw [ho] at h; cases h
 | some p =>
   obtain ⟨k, q⟩ := p
   rw [ho] at h
   simp only [Option.bind_some] at h
   obtain ⟨g1, g2⟩ := one2 ho hg
   split at h
   · rename_i h0
     rcases g2 with ⟨_, g2⟩ | ⟨h1, _⟩
     · cases ht : tableP q with
       | none => rw [ht] at h; cases h
       | some a =>
         obtain ⟨t, r⟩ := a
         rw [ht] at h
         simp only [Option.bind_some] at h
         obtain ⟨t1, t2, t3, t4⟩ := table_acc ht g1
         split at h
         · simp only [Option.some.injEq] at h
           subst h
           refine ⟨.inl ⟨rfl, t1, rfl⟩, ⟨t2, fun x hx => (by cases hx)⟩, ?_⟩
           unfold toksD
           simp only [if_true]
           rw [sz_cons, sz_tW]
           omega
         · cases h
     · omega
   · rename_i h0
     rcases g2 with ⟨h1, _⟩ | ⟨_, g2⟩
     · omega
     · cases ht : viewP q with
       | none => rw [ht] at h; cases h
       | some a =>
         obtain ⟨v, r⟩ := a
         rw [ht] at h
         simp only [Option.bind_some] at h
         obtain ⟨t1, t2, t3, t4⟩ := view_acc ht g1
         split at h
         · simp only [Option.some.injEq] at h
           subst h
           refine ⟨.inr ⟨rfl, rfl, t1⟩, ⟨fun e he => (by cases he), t2⟩, ?_⟩
           unfold toksD
           rw [if_neg (by simp), sz_cons, sz_tW]
           dsimp only
           omega
         · cases h
end Go.Proofs.YtamekagminbejaaGreatDoor
namespace Go.Proofs.YtamekagminbejaaGreatDoor
open Go
set_option maxRecDepth 100000
theorem quo_cost : ∀ (l : List UInt8) (b : Bool) (u q : List UInt8), quoF b l = some (u, q) → (sub1 39 [39, 39] u).length + (if b then 0 else 1) + q.length = l.length
 | [], false, u, q, h => by simp [quoF] at h
 | [], true, u, q, h => by simp [quoF] at h; simp [h.1, h.2, sub1]
 | c :: l, false, u, q, h => by
   rw [quoF] at h
   split at h
   · have := quo_cost l true u q h
     simp only [if_true] at this
     simp only [Bool.false_eq_true, if_false, List.length_cons]; omega
   · rename_i hc
     cases e : quoF false l with
     | none => rw [e] at h; cases h
     | some p =>
       rw [e] at h
       simp only [Option.map_some, Option.some.injEq, Prod.mk.injEq] at h
       have := quo_cost l false p.1 p.2 e
       simp only [Bool.false_eq_true, if_false] at this
       rw [← h.1, ← h.2, sub1, if_neg hc]
       simp only [Bool.false_eq_true, if_false, List.length_cons]; omega
 | c :: l, true, u, q, h => by
   rw [quoF] at h
   split at h
   · rename_i hc
     cases e : quoF false l with
     | none => rw [e] at h; cases h
     | some p =>
       rw [e] at h
       simp only [Option.map_some, Option.some.injEq, Prod.mk.injEq] at h
       have := quo_cost l false p.1 p.2 e
       simp only [Bool.false_eq_true, if_false] at this
       rw [← h.1, ← h.2, sub1, if_pos rfl]
       simp only [if_true, List.length_append, List.length_cons, List.length_nil]; omega
   · simp only [Option.some.injEq, Prod.mk.injEq] at h
     rw [← h.1, ← h.2]
     simp [sub1]
theorem num_txt {w : List UInt8} {t : Tk} (h : numT w = some t) : txtT t = w := by
 unfold numT at h
 split at h
 · split at h
   · rename_i v _ hv
     simp only [Option.some.injEq] at h
     subst h
     have e : txtT (intT v) = Lib.itoa v := rfl
     rw [e, hv]
   · cases h
 · cases h
theorem take_drop_len (p : UInt8 → Bool) (l : List UInt8) : (l.takeWhile p).length + (l.dropWhile p).length = l.length := by
 have := congrArg List.length (List.takeWhile_append_dropWhile (p := p) (l := l))
 rwa [List.length_append] at this
theorem tok_cost {l : List UInt8} {t : Tk} {q : List UInt8} (h : tokL l = some (t, q)) : (txtT t).length + q.length = l.length := by
 cases l with
 | nil => cases h
 | cons c l =>
   rw [tokL] at h
   split at h
   · simp only [Option.some.injEq, Prod.mk.injEq] at h
     rw [← h.1, ← h.2]
     exact take_drop_len inn (c :: l)
   split at h
   · cases e : numT ((c :: l).takeWhile dig) with
     | none => rw [e] at h; cases h
     | some u =>
       rw [e] at h
       simp only [Option.map_some, Option.some.injEq, Prod.mk.injEq] at h
       rw [← h.1, ← h.2, num_txt e]
       exact take_drop_len dig (c :: l)
   split at h
   · cases e : quoF false l with
     | none => rw [e] at h; cases h
     | some p =>
       rw [e] at h
       simp only [Option.map_some, Option.some.injEq, Prod.mk.injEq] at h
       have hc := quo_cost l false p.1 p.2 e
       simp only [Bool.false_eq_true, if_false] at hc
       have et : txtT (strT p.1) = 39 :: (sub1 39 [39, 39] p.1 ++ [39]) := rfl
       rw [← h.1, ← h.2, et]
       simp only [List.length_cons, List.length_append, List.length_nil]
       omega
   split at h
   · split at h
     · simp only [Option.some.injEq, Prod.mk.injEq] at h
       rw [← h.1, ← h.2]
       show 1 + l.length = l.length + 1
       omega
     · cases e : numT (c :: l.takeWhile dig) with
       | none => rw [e] at h; cases h
       | some u =>
         rw [e] at h
         simp only [Option.map_some, Option.some.injEq, Prod.mk.injEq] at h
         rw [← h.1, ← h.2, num_txt e]
         have := take_drop_len dig l
         simp only [List.length_cons]
         omega
   split at h
   · simp only [Option.some.injEq, Prod.mk.injEq] at h
     rw [← h.1, ← h.2]
     show 1 + l.length = l.length + 1
     omega
   · cases h
def tl : List Tk → Nat
 | [] => 0
 | t :: r => (txtT t).length + tl r
theorem lex_cost : ∀ (n : Nat) (s : List UInt8) (a : List Tk), s.length ≤ n → lexL s = some a → tl a ≤ s.length
 | n, [], a, _, h => by
   rw [lex_nil] at h
   simp only [Option.some.injEq] at h
   rw [← h]; exact Nat.zero_le _
 | 0, c :: s, a, hn, _ => by simp at hn
 | n + 1, c :: s, a, hn, h => by
   rw [List.length_cons] at hn
   by_cases hc : cls c = 1
   · rw [lex_blank hc] at h
     have := lex_cost n s a (by omega) h
     rw [List.length_cons]; omega
   · rw [lex_tok hc] at h
     cases e : tokL (c :: s) with
     | none => rw [e] at h; cases h
     | some p =>
       obtain ⟨u, q⟩ := p
       have hq := tok_lt e
       have hk := tok_cost e
       rw [List.length_cons] at hq
       rw [e] at h
       simp only at h
       split at h
       · cases e3 : lexL q with
         | none => rw [e3] at h; cases h
         | some b =>
           rw [e3] at h
           simp only [Option.map_some, Option.some.injEq] at h
           have := lex_cost n q b (by omega) e3
           rw [← h, tl]
           omega
       · cases h
theorem sz_tl : ∀ l : List Tk, G l → sz l ≤ 2 * tl l
 | [], _ => Nat.zero_le _
 | t :: r, hg => by
   have ih := sz_tl r hg.tail
   have h1 := txt_ne t hg.head.1 hg.head.2
   have h2 : 1 ≤ (txtT t).length := List.length_pos_iff.2 h1
   rw [sz, tl]
   omega
theorem print_sz : ∀ l : List Tk, (printL l).length ≤ sz l
 | [] => Nat.le_refl _
 | [t] => by rw [print_one, sz]; omega
 | t :: u :: l => by
   have ih := print_sz (u :: l)
   rw [print_cons t (u :: l) (by simp), sz, List.length_append, List.length_cons]
   omega
theorem read_print {s : List UInt8} {a : List Tk} {d : Df} (hs : lexL s = some a) (hp : parseD a = some d) : MayD d ∧ D64 d ∧ (printL (toksD d)).length ≤ 2 * s.length := by
 have hm := lex_may s.length s a (Nat.le_refl _) hs
 have hg : G a := fun t ht => hm t ht
 obtain ⟨h1, h2, h3⟩ := parse_acc hp hg
 have h4 := sz_tl a hg
 have h5 := lex_cost s.length s a (Nat.le_refl _) hs
 have h6 := print_sz (toksD d)
 exact ⟨h1, h2, by omega⟩
end Go.Proofs.YtamekagminbejaaGreatDoor
namespace Go.Proofs.YtamekagminbejaaGreatDoor
open Go
set_option maxRecDepth 100000
theorem name_len {l r : List Tk} {a : ByteArray} (h : nameP l = some (a, r)) : r.length < l.length := by
 cases l with
 | nil => cases h
 | cons t q =>
   rw [nameP] at h
   split at h
   · simp at h; rw [← h.2]; simp
   · cases h
theorem col_len {l r : List Tk} {a : Int} (h : colP l = some (a, r)) : r.length < l.length := by
 cases l with
 | nil => cases h
 | cons t q =>
   rw [colP] at h
   split at h
   · simp at h; rw [← h.2]; simp
   · cases h
theorem need_len {s : List UInt8} {l r : List Tk} (h : needP s l = some r) : r.length < l.length := by
 cases l with
 | nil => cases h
 | cons t q =>
   rw [needP] at h
   split at h
   · simp at h; rw [← h]; simp
   · cases h
theorem take_len (s : List UInt8) (l : List Tk) : (takeP s l).2.length ≤ l.length ∧ ((takeP s l).1 = true → (takeP s l).2.length < l.length) := by
 cases l with
 | nil => exact ⟨Nat.le_refl _, fun h => by cases h⟩
 | cons t q =>
   rw [takeP]
   split
   · simp
   · exact ⟨Nat.le_refl _, fun h => by cases h⟩
theorem one_len {ws : List (List UInt8)} {l r : List Tk} {a : Int} (h : oneP ws l = some (a, r)) : r.length < l.length := by
 cases l with
 | nil => cases h
 | cons t q =>
   rw [oneP] at h
   cases e : oneF ws 0 t with
   | none => rw [e] at h; cases h
   | some i => rw [e] at h; simp at h; rw [← h.2]; simp
theorem step_len {l r : List Tk} {x : Nd} (h : stepP l = some (x, r)) : r.length < l.length := by
 cases l with
 | nil => cases h
 | cons t q =>
   have ht := (take_len s_qm q).1
   rw [stepP] at h
   split at h
   · split at h
     · simp at h; rw [← h.2]; simp; omega
     · simp at h; rw [← h.2]; simp
   split at h
   · simp at h; rw [← h.2]; simp
   split at h
   · simp at h; rw [← h.2]; simp
   split at h
   · simp at h; rw [← h.2]; simp
   split at h
   · simp at h; rw [← h.2]; simp
   split at h
   · cases e : cnum t.t.data.toList with
     | none => rw [e] at h; cases h
     | some n => rw [e] at h; simp at h; rw [← h.2]; simp
   · cases h
theorem exprF_fuel : ∀ (n m : Nat) (l : List Tk), l.length < n → l.length < m → exprF n l = exprF m l
 | 0, _, _, h, _ => by omega
 | _, 0, _, _, h => by omega
 | n + 1, m + 1, [], _, _ => rfl
 | n + 1, m + 1, t :: r, hn, hm => by
   rw [exprF, exprF]
   split
   · rfl
   · cases e : stepP (t :: r) with
     | none => rfl
     | some p =>
       have := step_len (x := p.1) (r := p.2) e
       simp only [Option.bind_some]
       rw [exprF_fuel n m p.2 (by simp at this hn; omega) (by simp at this hm; omega)]
def exprG (l : List Tk) : Option (List Nd × List Tk) := exprF (l.length + 1) l
theorem exprG_eq (l : List Tk) : exprG l = if (takeP s_rb l).1 then some ([], (takeP s_rb l).2) else (stepP l).bind fun p => (exprG p.2).map fun q => (p.1 :: q.1, q.2) := by
 cases l with
 | nil => rfl
 | cons t r =>
   unfold exprG
   rw [exprF, takeP]
   cases isW s_rb t
   · simp only [Bool.false_eq_true, if_false]
     cases e : stepP (t :: r) with
     | none => rfl
     | some p =>
       have := step_len (x := p.1) (r := p.2) e
       simp only [Option.bind_some]
       rw [exprF_fuel _ (p.2.length + 1) p.2 this (by omega)]
   · rfl
theorem exprG_len : ∀ (n : Nat) (l r : List Tk) (e : List Nd), l.length ≤ n → exprG l = some (e, r) → r.length < l.length ∧ e.length + r.length < l.length
 | 0, [], _, _, _, h => by rw [exprG_eq] at h; cases h
 | 0, _ :: _, _, _, hn, _ => by simp at hn
 | n + 1, l, r, e, hn, h => by
   rw [exprG_eq] at h
   have ht := take_len s_rb l
   cases hq : (takeP s_rb l).1
   · rw [hq] at h
     simp only [Bool.false_eq_true, if_false] at h
     cases hs : stepP l with
     | none => rw [hs] at h; cases h
     | some p =>
       rw [hs] at h
       simp only [Option.bind_some] at h
       have h1 := step_len (x := p.1) (r := p.2) hs
       cases hg : exprG p.2 with
       | none => rw [hg] at h; cases h
       | some q =>
         rw [hg] at h
         simp at h
         have := exprG_len n p.2 q.2 q.1 (by omega) hg
         rw [← h.1, ← h.2]
         simp; omega
   · rw [hq] at h
     simp at h
     have := ht.2 hq
     rw [h.1, ← h.2]
     simp; omega
theorem exprP_eq (l : List Tk) : exprP l = (needP s_lb l).bind fun r => (exprG r).bind fun p => if p.1.length ≤ 100 then some p else none := rfl
theorem expr_len {l r : List Tk} {e : List Nd} (h : exprP l = some (e, r)) : r.length < l.length := by
 rw [exprP_eq] at h
 cases hn : needP s_lb l with
 | none => rw [hn] at h; cases h
 | some q =>
   rw [hn] at h
   simp only [Option.bind_some] at h
   have h1 := need_len hn
   cases hg : exprG q with
   | none => rw [hg] at h; cases h
   | some p =>
     rw [hg] at h
     simp only [Option.bind_some] at h
     split at h
     · simp at h
       have := exprG_len _ q p.2 p.1 (Nat.le_refl _) hg
       rw [h] at this
       simp at this
       omega
     · cases h
def tailG {α : Type} (p : List Tk → Option (α × List Tk)) (l : List Tk) : Option (List α × List Tk) := if (takeP s_cm l).1 then sepP p (takeP s_cm l).2 else some ([], l)
theorem sepF_fuel {α : Type} {p : List Tk → Option (α × List Tk)} (hp : ∀ l a, p l = some a → a.2.length ≤ l.length) : ∀ (n m : Nat) (l : List Tk), l.length < n → l.length < m → sepF p n l = sepF p m l
 | 0, _, _, h, _ => by omega
 | _, 0, _, _, h => by omega
 | n + 1, m + 1, l, hn, hm => by
   rw [sepF, sepF]
   cases e : p l with
   | none => rfl
   | some a =>
     have h1 := hp l a e
     have h2 := take_len s_cm a.2
     simp only [Option.bind_some]
     cases hq : (takeP s_cm a.2).1
     · rfl
     · have h3 := h2.2 hq
       simp only [if_true]
       rw [sepF_fuel hp n m _ (by omega) (by omega)]
theorem sepP_eq {α : Type} {p : List Tk → Option (α × List Tk)} (hp : ∀ l a, p l = some a → a.2.length ≤ l.length) (l : List Tk) : sepP p l = (p l).bind fun a => (tailG p a.2).map fun q => (a.1 :: q.1, q.2) := by
 unfold sepP
 rw [sepF]
 cases e : p l with
 | none => rfl
 | some a =>
   have h1 := hp l a e
   have h2 := take_len s_cm a.2
   simp only [Option.bind_some]
   unfold tailG
   cases hq : (takeP s_cm a.2).1
   · rfl
   · have h3 := h2.2 hq
     simp only [if_true]
     unfold sepP
     rw [sepF_fuel hp _ ((takeP s_cm a.2).2.length + 1) _ (by omega) (by omega)]
def checksG (l : List Tk) : Option (List (List Nd) × List Tk) := checksF (l.length + 1) l
theorem checksF_fuel : ∀ (n m : Nat) (l : List Tk), l.length < n → l.length < m → checksF n l = checksF m l
 | 0, _, _, h, _ => by omega
 | _, 0, _, _, h => by omega
 | n + 1, m + 1, l, hn, hm => by
   rw [checksF, checksF]
   have h1 := take_len w_check l
   cases hq : (takeP w_check l).1
   · rfl
   · simp only [if_true]
     have h2 := h1.2 hq
     cases e : exprP (takeP w_check l).2 with
     | none => rfl
     | some p =>
       have h3 := expr_len (e := p.1) (r := p.2) e
       simp only [Option.bind_some]
       rw [checksF_fuel n m p.2 (by omega) (by omega)]
theorem checksG_eq (l : List Tk) : checksG l = if (takeP w_check l).1 then (exprP (takeP w_check l).2).bind fun e => (checksG e.2).map fun q => (e.1 :: q.1, q.2) else some ([], l) := by
 unfold checksG
 rw [checksF]
 have h1 := take_len w_check l
 cases hq : (takeP w_check l).1
 · rfl
 · simp only [if_true]
   have h2 := h1.2 hq
   cases e : exprP (takeP w_check l).2 with
   | none => rfl
   | some p =>
     have h3 := expr_len (e := p.1) (r := p.2) e
     simp only [Option.bind_some]
     rw [checksF_fuel _ (p.2.length + 1) p.2 (by omega) (by omega)]
theorem column_len {l : List Tk} {a : Cl × List Tk} (h : columnP l = some a) : a.2.length < l.length := by
 unfold columnP at h
 cases e1 : nameP l with
 | none => rw [e1] at h; cases h
 | some x =>
   rw [e1] at h
   simp only [Option.bind_some] at h
   have h1 := name_len (a := x.1) (r := x.2) e1
   cases e2 : oneP [w_bool, w_int, w_text] x.2 with
   | none => rw [e2] at h; cases h
   | some k =>
     rw [e2] at h
     simp only [Option.bind_some] at h
     have h2 := one_len (a := k.1) (r := k.2) e2
     have h3 := (take_len w_null k.2).1
     have h4 := (take_len w_unique (takeP w_null k.2).2).1
     have h5 := (take_len w_ref (takeP w_unique (takeP w_null k.2).2).2).1
     split at h
     · cases e3 : nameP (takeP w_ref (takeP w_unique (takeP w_null k.2).2).2).2 with
       | none => rw [e3] at h; cases h
       | some y =>
         rw [e3] at h
         simp only [Option.bind_some] at h
         have h6 := name_len (a := y.1) (r := y.2) e3
         cases e4 : oneP [w_restrict, w_cascade, w_setnull] y.2 with
         | none => rw [e4] at h; cases h
         | some z =>
           rw [e4] at h
           simp at h
           have h7 := one_len (a := z.1) (r := z.2) e4
           rw [← h]
           simp only; omega
     · simp at h
       rw [← h]
       simp only; omega
theorem agg_len {l : List Tk} {a : Ag × List Tk} (h : aggP l = some a) : a.2.length < l.length := by
 unfold aggP at h
 cases e1 : oneP [w_count, w_sum, w_min, w_max] l with
 | none => rw [e1] at h; cases h
 | some f =>
   rw [e1] at h
   simp only [Option.bind_some] at h
   have h1 := one_len (a := f.1) (r := f.2) e1
   split at h
   · simp at h; rw [← h]; simp only; omega
   · cases e2 : colP f.2 with
     | none => rw [e2] at h; cases h
     | some c =>
       rw [e2] at h
       simp at h
       have h2 := col_len (a := c.1) (r := c.2) e2
       rw [← h]; simp only; omega
end Go.Proofs.YtamekagminbejaaGreatDoor
namespace Go.Proofs.YtamekagminbejaaGreatDoor
open Go Go.RowKit
set_option maxRecDepth 100000
theorem nOk : ElOk Tryz.prog 32 83 5 48 nd0.w rdN where
 under := Tryz.underlying32
 info := by kernel_rfl
 zs := rfl
 pos := by decide
 len := fun _ => rfl
 one := fun x u hu => by
  simp [rdN] at hu
  rcases hu with rfl | rfl | rfl | rfl | rfl <;> rfl
theorem take_no {s : List UInt8} {l : List Tk} (h : (takeP s l).1 = false) : (takeP s l).2 = l := by
 cases l with
 | nil => rfl
 | cons t r =>
   rw [takeP] at h ⊢
   cases e : isW s t
   · rfl
   · rw [e] at h; cases h
def ExprS (b : Nat) (w : World) (o : Option (List Nd × List Tk)) (e : Ending) (w' : World) : Prop := match o with
 | none => e = .panicked (boom 70) ∧ Apb b w w'
 | some q => ∃ v, e = .returned v ∧ OwnG w' w.heap.size 83 5 rdN v q.1 ∧ Rq w' b q.2 ∧ Apb b w w'
set_option maxHeartbeats 4000000 in
theorem expr_cR (b : Nat) (l : List Tk) (w : World) (hR : Rq w b l) (hG : GL w) (hGb : GLt b) :
 Calls Tryz.prog 191 #[.pointer (some ⟨b, 0, none⟩)] w fun e w' => ExprS b w (exprP l) e w' := by
 have hbs := hR.lt
 have HM := Lib.hid (must1_c b w.heap.size l s_lb (by decide) w rfl hR)
 have HG := Lib.hid hG
 have Hgb := Lib.hid hGb
 rw [exprP_eq]
 obtain ⟨S, hS⟩ : ∃ S, ExprS b w ((needP s_lb l).bind fun r => (exprG r).bind fun p => if p.1.length ≤ 100 then some p else none) = S := ⟨_, rfl⟩
 rw [hS]
 have HS := Lib.hid hS
 clear hR hG hGb hS
 go_enter Tryz.func191, Tryz.ntmps191
 go_wp2_with fail
 refine HM.out.mono ?_
 rintro e w1 hm
 cases hn : needP s_lb l with
 | none =>
   rw [hn] at hm HS
   obtain ⟨rfl, hb⟩ := hm
   refine ⟨rfl, ?_⟩
   rw [← HS.out]
   exact ⟨rfl, hb⟩
 | some r0 =>
   rw [hn] at hm HS
   obtain ⟨rfl, hr, hb⟩ := hm
   have Hr := Lib.hid hr
   have Hb := Lib.hid hb
   clear hn hr hb HM
   go_wp2_with fail
   go_loopw [3] (fun v wr => ∃ (acc : List Nd) (rest : List Tk), Hid (OwnG wr w.heap.size 83 5 rdN v acc) ∧ Hid (Rq wr b rest) ∧ Hid (Apb b w wr) ∧ Hid (exprG r0 = (exprG rest).map fun q => (acc ++ q.1, q.2)) ∧ Hid (acc.length + rest.length ≤ 20000)) (fun _ wr => rqLen wr b)
   case atStart => exact ⟨[], r0, OwnG.nil _ _ _, Hr, Hb, Lib.hid (by cases exprG r0 <;> rfl), by have := Hr.out.len; simpa using Lib.hid this⟩
   case round =>
    obtain ⟨acc, rest, ho, hr, hb, he, hlen⟩ := hrel
    have hsz : w.heap.size ≤ wr.heap.size := hb.out.size
    have HH := Lib.hid (has1_c b wr.heap.size rest s_rb (by decide) wr rfl hr.out)
    have hml := hr.out.left
    have HL := Lib.hid hml
    have hap := exprG_eq rest
    clear hml
    cases hq : (takeP s_rb rest).1
    · rw [hq] at HH hap
      rw [take_no hq] at HH
      simp only [Bool.false_eq_true, if_false] at hap
      have Hap := Lib.hid hap
      clear hq hap
      go_wp2_with fail
      refine HH.out.mono ?_
      rintro e w2 ⟨rfl, hr2, hb2⟩
      have HO2 := Lib.hid (ho.out.kept hb2 hbs)
      have HR2 := Lib.hid hr2
      have HB2 := Lib.hid (hb.out.trans hb2)
      have HG2 := Lib.hid (HG.out.below ((hb.out.trans hb2).below hbs) Hgb.out)
      clear hr2 hb2 HH ho hb hr
      go_wp2_with fail
      refine (step_cR b rest w2 HR2.out HG2.out Hgb.out).mono ?_
      rintro e w3 hst
      cases hs : stepP rest with
      | none =>
        rw [hs] at hst Hap
        obtain ⟨rfl, hb3⟩ := hst
        refine ⟨rfl, ?_⟩
        rw [← HS.out]
        simp only [Option.bind_some, he.out, Hap.out, Option.bind_none, Option.map_none]
        exact ⟨rfl, HB2.out.trans hb3⟩
      | some q =>
        rw [hs] at hst Hap
        obtain ⟨rfl, hr3, hb3⟩ := hst
        have hlt := step_len (x := q.1) (r := q.2) hs
        have HO3 := Lib.hid (HO2.out.kept hb3 hbs)
        have HR3 := Lib.hid hr3
        have HB3 := Lib.hid (HB2.out.trans hb3)
        have hsz3 : w.heap.size ≤ w3.heap.size := HB3.out.size
        have Hlt := Lib.hid hlt
        have hbl := hr3.lt
        obtain ⟨x, rest'⟩ := q
        clear hs hr3 hb3 HO2 HR2 HB2 HG2 hlt
        have hln := hlen.out
        clear hlen
        go_wp2_with (at_builtin; go_must (
         refine wpList_appG nOk rfl (.tmp 11) (.tmp 14) rfl w.heap.size _ acc [x] (some ⟨w3.heap.size, 0, none⟩) 1 1 rfl (HO3.out.alloc _) rfl rfl (SlG.new nOk.len [x] rfl) (by simp [maxLen]; omega) (by simp; omega) (by simp; omega) ?_
         intro v4 w4 hv4 hg4
         have HO4 := Lib.hid hv4
         have HR4 := Lib.hid (show Rq w4 b rest' from HR3.out.same fun k hk => (hg4.block k (by simp; omega) (fun e => by have := (HO3.out.lt _ e.symm).1; omega)).trans (Below.heap_alloc _ _ k (by omega)))
         have HB4 := Lib.hid ((HB3.out.alloc _).grown hg4 (fun k hk => by have := (HO3.out.lt k hk).1; omega))
         clear hv4 hg4))
        go_roundw
        case rel =>
         refine ⟨acc ++ [x], rest', HO4, HR4, HB4, ?_, ?_⟩
         · rw [he.out, Hap.out]
           simp only [Option.bind_some]
           refine Lib.hid ?_
           cases exprG rest' with
           | none => rfl
           | some z => simp
         · have := Hlt.out
           refine Lib.hid ?_
           simp at this ⊢; omega
        case measure =>
         have h1 := HR4.out.left
         have h2 := HL.out
         have h3 : rest'.length < rest.length := Hlt.out
         omega
    · rw [hq] at HH hap
      simp only [if_true] at hap
      have Hap := Lib.hid hap
      clear hq hap
      go_wp2_with fail
      refine HH.out.mono ?_
      rintro e w2 ⟨rfl, hr2, hb2⟩
      have HO2 := Lib.hid (ho.out.kept hb2 hbs)
      have HR2 := Lib.hid hr2
      have HB2 := Lib.hid (hb.out.trans hb2)
      obtain ⟨A, c, hv⟩ := ho.out.isSlice
      have hS : S = ExprS b w (if acc.length ≤ 100 then some (acc, (takeP s_rb rest).2) else none) := by
       rw [← HS.out]
       simp only [Option.bind_some, he.out, Hap.out, Option.map_some, List.append_nil]
      have HSS := Lib.hid hS
      have hln := hlen.out
      clear hr2 hb2 HH hb hr hlen ho HS he Hap hS
      subst hv
      by_cases h100 : acc.length ≤ 100
      · rw [if_pos h100] at HSS
        have hd : decide ((acc.length : Int) ≤ 100) = true := by simp; omega
        go_wp2_with fail
        refine (req_yes _).mono ?_
        rintro e w3 ⟨rfl, rfl⟩
        go_wp2
        rw [HSS.out]
        exact ⟨_, rfl, HO2.out, HR2.out, HB2.out⟩
      · rw [if_neg h100] at HSS
        have hd : decide ((acc.length : Int) ≤ 100) = false := by simp; omega
        go_wp2_with fail
        refine (req_no _).mono ?_
        rintro e w3 ⟨rfl, rfl⟩
        refine ⟨rfl, ?_⟩
        rw [HSS.out]
        exact ⟨rfl, HB2.out⟩
abbrev wdN (w : World) (ws : List (List UInt8)) : World := w.alloc (.cells (ws.map fun s => Value.string (ba s)).toArray 9)
theorem flat_ws (ws : List (List UInt8)) : ws.flatMap rdS = ws.map fun s => Value.string (ba s) := by
 induction ws with
 | nil => rfl
 | cons s ws ih => rw [List.flatMap_cons, ih]; rfl
theorem slWN (w : World) (ws : List (List UInt8)) : SlG (wdN w ws) (some ⟨w.heap.size, 0, none⟩) 1 rdS ws := SlG.new (rd := rdS) (S := 1) (fun _ => rfl) ws (by rw [flat_ws])
theorem choiceN_c (b g : Nat) (l : List Tk) (ws : List (List UInt8)) (h0 : ∀ s ∈ ws, s ≠ []) (hw0 : ws ≠ []) (hm : ws.length ≤ maxLen) (w : World) (hg : w.heap.size = g) (hR : Rq w b l) :
 Calls Tryz.prog 158 #[.pointer (some ⟨b, 0, none⟩), .slice (some ⟨g, 0, none⟩) ws.length ws.length] (wdN w ws) fun e w' => match oneP ws l with
  | none => e = .panicked (boom 70) ∧ Apb b w w'
  | some q => e = .returned (.int .i64 q.1) ∧ Rq w' b q.2 ∧ Apb b w w' := by
 subst hg
 have hlt := hR.lt
 refine (choice_cR b l ws (some ⟨w.heap.size, 0, none⟩) ws.length ws.length (wdN w ws) (hR.alloc _) (slWN w ws) (fun k hk => by simp at hk; omega) rfl hm h0 hw0).mono ?_
 intro e w' h
 cases hq : oneP ws l with
 | none => rw [hq] at h; exact ⟨h.1, h.2.of_alloc⟩
 | some q => rw [hq] at h; exact ⟨h.1, h.2.1, h.2.2.of_alloc⟩
theorem kinds_c (w : World) : Calls Tryz.prog 170 #[] w fun e w' => e = .returned (.slice (some ⟨w.heap.size, 0, none⟩) 3 3) ∧ w' = wdN w [w_bool, w_int, w_text] := by
 go_enter Tryz.func170, Tryz.ntmps170
 go_wp2
 go_ret
 exact ⟨rfl, rfl⟩
theorem acts_c (w : World) : Calls Tryz.prog 171 #[] w fun e w' => e = .returned (.slice (some ⟨w.heap.size, 0, none⟩) 3 3) ∧ w' = wdN w [w_restrict, w_cascade, w_setnull] := by
 go_enter Tryz.func171, Tryz.ntmps171
 go_wp2
 go_ret
 exact ⟨rfl, rfl⟩
theorem fns_c (w : World) : Calls Tryz.prog 174 #[] w fun e w' => e = .returned (.slice (some ⟨w.heap.size, 0, none⟩) 4 4) ∧ w' = wdN w [w_count, w_sum, w_min, w_max] := by
 go_enter Tryz.func174, Tryz.ntmps174
 go_wp2
 go_ret
 exact ⟨rfl, rfl⟩
def BkC (w : World) (C : Nat) (c : Cl) : Prop := Bk w C #[.string c.name, .int .i64 c.kind, .bool c.nul, .bool c.uni, .string c.ref, .int .i64 c.act] 41
theorem BkC.all {w : World} {C : Nat} {c : Cl} (h : BkC w C c) : w.cell? ⟨C, 0, none⟩ = some (.string c.name) ∧ w.cell? ⟨C, 1, none⟩ = some (.int .i64 c.kind) ∧ w.cell? ⟨C, 2, none⟩ = some (.bool c.nul) ∧ w.cell? ⟨C, 3, none⟩ = some (.bool c.uni) ∧ w.cell? ⟨C, 4, none⟩ = some (.string c.ref) ∧ w.cell? ⟨C, 5, none⟩ = some (.int .i64 c.act) ∧
 w.frozen? ⟨C, 0, none⟩ = false ∧ w.frozen? ⟨C, 1, none⟩ = false ∧ w.frozen? ⟨C, 2, none⟩ = false ∧ w.frozen? ⟨C, 3, none⟩ = false ∧ w.frozen? ⟨C, 4, none⟩ = false ∧ w.frozen? ⟨C, 5, none⟩ = false ∧ C < w.heap.size :=
 ⟨Bk.cell h 0, Bk.cell h 1, Bk.cell h 2, Bk.cell h 3, Bk.cell h 4, Bk.cell h 5, Bk.thaw h 0, Bk.thaw h 1, Bk.thaw h 2, Bk.thaw h 3, Bk.thaw h 4, Bk.thaw h 5, Bk.lt h⟩
theorem ret_cl {fn : Func} {R : Ending → World → Prop} {F : Act} {w : World} {t : Tmp} {b : Nat} {a : Cl} (hres : fn.results = #[.cell t 41]) (ht : Reg.slot F t = .pointer (some ⟨b, 0, none⟩)) (hb : BkC w b a) (hd : F.defers = [])
 (hR : R (.returned a.w) w) : bodyPost Tryz.prog fn R .ret F w := by
 obtain ⟨h0, h1, h2, h3, h4, h5, _⟩ := hb.all
 refine bodyPost_ret (v := a.w) ?_ hd hR
 have ht' : F.tmps[t]?.getD undef = .pointer (some ⟨b, 0, none⟩) := by simpa [Reg.slot] using ht
 simp [results, hres, ht', go_sem, h0, h1, h2, h3, h4, h5]
theorem one_bd {ws : List (List UInt8)} {l r : List Tk} {k : Int} (h : oneP ws l = some (k, r)) : 0 ≤ k ∧ k < ws.length := by
 cases l with
 | nil => cases h
 | cons t q =>
   rw [oneP] at h
   cases e : oneF ws 0 t with
   | none => rw [e] at h; cases h
   | some i =>
     rw [e] at h
     simp at h
     have := oneF_pos ws 0 i e
     omega
def cl0 : Cl := ⟨emp, 0, false, false, emp, 0⟩
def ColumnS (b : Nat) (w : World) (o : Option (Cl × List Tk)) (e : Ending) (w' : World) : Prop := match o with
 | none => e = .panicked (boom 70) ∧ Apb b w w'
 | some q => e = .returned q.1.w ∧ Rq w' b q.2 ∧ Apb b w w'
set_option maxHeartbeats 8000000 in
theorem column_cR (b : Nat) (l : List Tk) (w : World) (hR : Rq w b l) :
 Calls Tryz.prog 189 #[.pointer (some ⟨b, 0, none⟩)] w fun e w' => ColumnS b w (columnP l) e w' := by
 have hbs := hR.lt
 obtain ⟨S, hS⟩ : ∃ S, ColumnS b w (columnP l) = S := ⟨_, rfl⟩
 rw [hS]
 unfold columnP at hS
 have HS := Lib.hid hS
 have HN := Lib.hid (name_cR b l _ (hR.alloc (.cells (rdCl cl0).toArray 41)))
 have HB0 : Hid (BkC (w.alloc (.cells (rdCl cl0).toArray 41)) w.heap.size cl0) := Lib.hid (Bk.new w _ _)
 clear hR hS
 go_enter Tryz.func189, Tryz.ntmps189
 go_wp2_with fail
 refine HN.out.mono ?_
 rintro e w1 hn
 cases hq : nameP l with
 | none =>
   rw [hq] at hn HS
   obtain ⟨rfl, hb⟩ := hn
   refine ⟨rfl, ?_⟩
   rw [← HS.out]
   exact ⟨rfl, hb.of_alloc⟩
 | some a =>
   rw [hq] at hn HS
   obtain ⟨rfl, hr, hb⟩ := hn
   obtain ⟨nm, r⟩ := a
   have HB1 := Lib.hid (Bk.kept HB0.out hb (by omega))
   have Hb1 := Lib.hid hb.of_alloc
   have Hr1 := Lib.hid hr
   clear hq hr hb HN HB0
   go_wp2_with fail
   refine (kinds_c w1).mono ?_
   rintro e w2 ⟨rfl, rfl⟩
   go_wp2_with fail
   refine (choiceN_c b w1.heap.size r [w_bool, w_int, w_text] (by decide) (by decide) (by decide) w1 rfl Hr1.out).mono ?_
   rintro e w2 hn
   cases hq : oneP [w_bool, w_int, w_text] r with
   | none =>
     simp only [Option.bind_some, hq, Option.bind_none] at HS
     rw [hq] at hn
     obtain ⟨rfl, hb⟩ := hn
     refine ⟨rfl, ?_⟩
     rw [← HS.out]
     exact ⟨rfl, Hb1.out.trans hb⟩
   | some kq =>
     obtain ⟨k, r2⟩ := kq
     simp only [Option.bind_some, hq] at HS
     rw [hq] at hn
     obtain ⟨rfl, hr, hb⟩ := hn
     have HB2 := Lib.hid (Bk.kept HB1.out hb (by omega))
     have Hb2 := Lib.hid (Hb1.out.trans hb)
     have Hr2 := Lib.hid hr
     have hk := one_bd hq
     have hk1 := hk.1
     have hk2 : k < 3 := by have := hk.2; simpa using this
     clear hq hr hb HB1 Hb1 Hr1 hk
     go_wp2_with fail
     have hsz2 : w.heap.size < w2.heap.size := HB2.out.lt
     have hbl := Hr2.out.lt
     have HC3 : Hid (BkC (w2.alloc (.cells #[.string nm, .int .i64 (1 + k), .bool false, .bool false, .string emp, .int .i64 0] 41)) w2.heap.size ⟨nm, 1 + k, false, false, emp, 0⟩) := Lib.hid (Bk.new _ _ _)
     have HB3 := Lib.hid (HB2.out.after (below_one w2 (.cells #[.string nm, .int .i64 (1 + k), .bool false, .bool false, .string emp, .int .i64 0] 41)) hsz2)
     have Hr3 := Lib.hid (Hr2.out.alloc (.cells #[.string nm, .int .i64 (1 + k), .bool false, .bool false, .string emp, .int .i64 0] 41))
     have Hb3 := Lib.hid (Hb2.out.alloc (.cells #[.string nm, .int .i64 (1 + k), .bool false, .bool false, .string emp, .int .i64 0] 41))
     obtain ⟨C, hC⟩ : ∃ C, w2.heap.size = C := ⟨_, rfl⟩
     have hz3 : (w2.alloc (.cells #[.string nm, .int .i64 (1 + k), .bool false, .bool false, .string emp, .int .i64 0] 41)).heap.size = C + 1 := by simp; exact hC
     obtain ⟨W3, hW3⟩ : ∃ W3, w2.alloc (.cells #[.string nm, .int .i64 (1 + k), .bool false, .bool false, .string emp, .int .i64 0] 41) = W3 := ⟨_, rfl⟩
     rw [hW3] at HC3 HB3 Hr3 Hb3 hz3
     rw [hC] at HC3 hsz2 hbl
     have HW3 := Lib.hid hW3
     have HCe := Lib.hid hC
     have Hz3 := Lib.hid hz3
     clear HB2 Hr2 Hb2 hW3 hz3
     rw [HW3.out, hC]
     clear hC
     refine (has1_c b (C + 1) _ w_null (by decide) W3 Hz3.out Hr3.out).mono ?_
     rintro e w4 ⟨rfl, hr, hb⟩
     obtain ⟨nu, hnu⟩ : ∃ nu, (takeP w_null r2).1 = nu := ⟨_, rfl⟩
     obtain ⟨l4, hl4⟩ : ∃ l4, (takeP w_null r2).2 = l4 := ⟨_, rfl⟩
     rw [hnu, hl4] at HS
     simp only [hnu, hl4] at hr ⊢
     have HC4 : Hid (BkC w4 C _) := Lib.hid (Bk.kept HC3.out hb (by omega))
     have HB4 := Lib.hid (HB3.out.kept hb (by omega))
     have Hr4 := Lib.hid hr
     have Hb4 := Lib.hid (Hb3.out.trans hb)
     obtain ⟨c0, c1, c2, c3, c4, c5, f0, f1, f2, f3, f4, f5, hlt⟩ := HC4.out.all
     clear hr hb hnu hl4 HC3 HB3 Hr3 Hb3 HW3 HCe Hz3
     go_wp2_with fail
     have hz5 : (w4.setCell ⟨C, 2, none⟩ (.bool nu)).heap.size = w4.heap.size := by simp [World.setCell]
     refine (has1_c b w4.heap.size l4 w_unique (by decide) _ hz5 (Hr4.out.own hbl 2 (.bool nu))).mono ?_
     rintro e w5 ⟨rfl, hr, hb⟩
     obtain ⟨un, hun⟩ : ∃ un, (takeP w_unique l4).1 = un := ⟨_, rfl⟩
     obtain ⟨l5, hl5⟩ : ∃ l5, (takeP w_unique l4).2 = l5 := ⟨_, rfl⟩
     rw [hun, hl5] at HS
     simp only [hun, hl5] at hr ⊢
     have HC5 : Hid (BkC w5 C ⟨nm, 1 + k, nu, false, emp, 0⟩) := Lib.hid (Bk.kept (Bk.set HC4.out 2 (.bool nu)) hb (by omega))
     have HB5 := Lib.hid ((HB4.out.after (B := C) (Below.setCell (Below.refl C w4) (Nat.le_refl C) _) hsz2).kept hb (by omega))
     have Hr5 := Lib.hid hr
     have Hb5 := Lib.hid ((Hb4.out.own (by omega) 2 (.bool nu)).trans hb)
     clear c0 c1 c2 c3 c4 c5 f0 f1 f2 f3 f4 f5 hlt
     obtain ⟨c0, c1, c2, c3, c4, c5, f0, f1, f2, f3, f4, f5, hlt⟩ := HC5.out.all
     clear hr hb hun hl5 HC4 HB4 Hr4 Hb4 hz5
     go_wp2_with fail
     have hz6 : (w5.setCell ⟨C, 3, none⟩ (.bool un)).heap.size = w5.heap.size := by simp [World.setCell]
     refine (has1_c b w5.heap.size l5 w_ref (by decide) _ hz6 (Hr5.out.own hbl 3 (.bool un))).mono ?_
     rintro e w6 ⟨rfl, hr, hb⟩
     have HC6 : Hid (BkC w6 C ⟨nm, 1 + k, nu, un, emp, 0⟩) := Lib.hid (Bk.kept (Bk.set HC5.out 3 (.bool un)) hb (by omega))
     have HB6 := Lib.hid ((HB5.out.after (B := C) (Below.setCell (Below.refl C w5) (Nat.le_refl C) _) hsz2).kept hb (by omega))
     have Hb6 := Lib.hid ((Hb5.out.own (by omega) 3 (.bool un)).trans hb)
     clear c0 c1 c2 c3 c4 c5 f0 f1 f2 f3 f4 f5 hlt
     cases hq : (takeP w_ref l5).1
     · rw [hq] at HS
       rw [take_no hq] at hr
       simp only [Bool.false_eq_true, if_false] at HS
       have Hr6 := Lib.hid hr
       obtain ⟨c0, c1, c2, c3, c4, c5, f0, f1, f2, f3, f4, f5, hlt⟩ := HC6.out.all
       obtain ⟨r0, r1, r2', r3, r4, r5, g0, g1, g2, g3, g4, g5, hlt2⟩ := BkC.all (c := cl0) HB6.out
       clear hr hb hq HC5 HB5 Hr5 Hb5 hz6
       go_wp2
       refine ret_cl (b := w.heap.size) (a := ⟨nm, 1 + k, nu, un, emp, 0⟩) Tryz.results189 rfl (Bk.put HB6.out (rdCl ⟨nm, 1 + k, nu, un, emp, 0⟩) rfl) rfl ?_
       rw [← HS.out, show k + 1 = 1 + k by omega]
       exact ⟨rfl, Hr6.out.put (by omega) 0 (rdCl ⟨nm, 1 + k, nu, un, emp, 0⟩), Hb6.out.put (Nat.le_refl _) 0 (rdCl ⟨nm, 1 + k, nu, un, emp, 0⟩)⟩
     · rw [hq] at HS
       simp only [if_true] at HS
       obtain ⟨l6, hl6⟩ : ∃ l6, (takeP w_ref l5).2 = l6 := ⟨_, rfl⟩
       rw [hl6] at HS hr
       have Hr6 := Lib.hid hr
       obtain ⟨c0, c1, c2, c3, c4, c5, f0, f1, f2, f3, f4, f5, hlt⟩ := HC6.out.all
       clear hr hb hq HC5 HB5 Hr5 Hb5 hz6 hl6
       go_wp2_with fail
       refine (name_cR b l6 w6 Hr6.out).mono ?_
       rintro e w7 hn
       cases hq : nameP l6 with
       | none =>
         rw [hq] at hn HS
         obtain ⟨rfl, hb⟩ := hn
         refine ⟨rfl, ?_⟩
         rw [← HS.out]
         exact ⟨rfl, Hb6.out.trans hb⟩
       | some a =>
         rw [hq] at hn HS
         obtain ⟨rfl, hr, hb⟩ := hn
         obtain ⟨rf, l7⟩ := a
         have HC7 : Hid (BkC w7 C ⟨nm, 1 + k, nu, un, emp, 0⟩) := Lib.hid (Bk.kept HC6.out hb (by omega))
         have HB7 := Lib.hid (HB6.out.kept hb (by omega))
         have Hb7 := Lib.hid (Hb6.out.trans hb)
         have Hr7 := Lib.hid hr
         clear c0 c1 c2 c3 c4 c5 f0 f1 f2 f3 f4 f5 hlt
         obtain ⟨c0, c1, c2, c3, c4, c5, f0, f1, f2, f3, f4, f5, hlt⟩ := HC7.out.all
         clear hr hb hq HC6 HB6 Hr6 Hb6
         go_wp2_with fail
         refine (acts_c _).mono ?_
         rintro e w8 ⟨rfl, rfl⟩
         have hz7 : (w7.setCell ⟨C, 4, none⟩ (.string rf)).heap.size = w7.heap.size := by simp [World.setCell]
         rw [hz7]
         go_wp2_with fail
         refine (choiceN_c b w7.heap.size l7 [w_restrict, w_cascade, w_setnull] (by decide) (by decide) (by decide) _ hz7 (Hr7.out.own hbl 4 (.string rf))).mono ?_
         rintro e w8 hn
         cases hq : oneP [w_restrict, w_cascade, w_setnull] l7 with
         | none =>
           simp only [Option.bind_some, hq, Option.map_none] at HS
           rw [hq] at hn
           obtain ⟨rfl, hb⟩ := hn
           refine ⟨rfl, ?_⟩
           rw [← HS.out]
           exact ⟨rfl, (Hb7.out.own (by omega) 4 (.string rf)).trans hb⟩
         | some kq =>
           obtain ⟨ac, l8⟩ := kq
           simp only [Option.bind_some, hq, Option.map_some] at HS
           rw [hq] at hn
           obtain ⟨rfl, hr, hb⟩ := hn
           have HC8 : Hid (BkC w8 C ⟨nm, 1 + k, nu, un, rf, 0⟩) := Lib.hid (Bk.kept (Bk.set HC7.out 4 (.string rf)) hb (by omega))
           have HB8 := Lib.hid ((HB7.out.after (B := C) (Below.setCell (Below.refl C w7) (Nat.le_refl C) _) hsz2).kept hb (by omega))
           have Hb8 := Lib.hid ((Hb7.out.own (by omega) 4 (.string rf)).trans hb)
           have Hr8 := Lib.hid hr
           clear c0 c1 c2 c3 c4 c5 f0 f1 f2 f3 f4 f5 hlt
           obtain ⟨c0, c1, c2, c3, c4, c5, f0, f1, f2, f3, f4, f5, hlt⟩ := HC8.out.all
           obtain ⟨r0, r1, r2', r3, r4, r5, g0, g1, g2, g3, g4, g5, hlt2⟩ := BkC.all (c := cl0) HB8.out
           have hne : ¬ w.heap.size = C := by omega
           have hne2 : ¬ C = w.heap.size := by omega
           clear hr hb hq HC7 HB7 Hr7 Hb7 hz7
           go_wp2
           refine ret_cl (b := w.heap.size) (a := ⟨nm, 1 + k, nu, un, rf, ac⟩) Tryz.results189 rfl ?_ rfl ?_
           · exact Bk.put (HB8.out.after (B := C) (Below.setCell (Below.refl C w8) (Nat.le_refl C) _) hsz2) (rdCl ⟨nm, 1 + k, nu, un, rf, ac⟩) rfl
           · rw [← HS.out, show k + 1 = 1 + k by omega]
             exact ⟨rfl, (Hr8.out.own hbl 5 (.int .i64 ac)).put (by omega) 0 (rdCl ⟨nm, 1 + k, nu, un, rf, ac⟩), (Hb8.out.own (by omega) 5 (.int .i64 ac)).put (Nat.le_refl _) 0 (rdCl ⟨nm, 1 + k, nu, un, rf, ac⟩)⟩
def onP (l : List Tk) : Option ((Int × Int) × List Tk) := (needP w_on l).bind fun r => (colP r).bind fun x => (needP s_eq x.2).bind fun q => (colP q).map fun y => ((x.1, y.1), y.2)
theorem ret_on {fn : Func} {R : Ending → World → Prop} {F : Act} {w : World} {t : Tmp} {b : Nat} {x y : Int} (hres : fn.results = #[.cell t 30]) (ht : Reg.slot F t = .pointer (some ⟨b, 0, none⟩)) (hb : Bk w b #[.int .i64 x, .int .i64 y] 30) (hd : F.defers = [])
 (hR : R (.returned (.agg #[.int .i64 x, .int .i64 y])) w) : bodyPost Tryz.prog fn R .ret F w := by
 have h0 : w.cell? ⟨b, 0, none⟩ = some (.int .i64 x) := hb.cell 0
 have h1 : w.cell? ⟨b, 1, none⟩ = some (.int .i64 y) := hb.cell 1
 refine bodyPost_ret (v := .agg #[.int .i64 x, .int .i64 y]) ?_ hd hR
 have ht' : F.tmps[t]?.getD undef = .pointer (some ⟨b, 0, none⟩) := by simpa [Reg.slot] using ht
 simp [results, hres, ht', go_sem, h0, h1]
def OnS (b : Nat) (w : World) (o : Option ((Int × Int) × List Tk)) (e : Ending) (w' : World) : Prop := match o with
 | none => e = .panicked (boom 70) ∧ Apb b w w'
 | some q => e = .returned (.agg #[.int .i64 q.1.1, .int .i64 q.1.2]) ∧ Rq w' b q.2 ∧ Apb b w w'
set_option maxHeartbeats 8000000 in
theorem on_cR (b : Nat) (l : List Tk) (w : World) (hR : Rq w b l) :
 Calls Tryz.prog 192 #[.pointer (some ⟨b, 0, none⟩)] w fun e w' => OnS b w (onP l) e w' := by
 have hbs := hR.lt
 obtain ⟨S, hS⟩ : ∃ S, OnS b w (onP l) = S := ⟨_, rfl⟩
 rw [hS]
 unfold onP at hS
 have HS := Lib.hid hS
 have hN : (w.alloc (.cells #[.int .i64 0, .int .i64 0] 30)).heap.size = w.heap.size + 1 := by simp
 have HM := Lib.hid (must1_c b (w.heap.size + 1) l w_on (by decide) _ hN (hR.alloc (.cells #[.int .i64 0, .int .i64 0] 30)))
 have HB0 := Lib.hid (Bk.new w #[.int .i64 0, .int .i64 0] 30)
 clear hR hS hN
 go_enter Tryz.func192, Tryz.ntmps192
 go_wp2_with fail
 refine HM.out.mono ?_
 rintro e w1 hn
 cases hq : needP w_on l with
 | none =>
   rw [hq] at hn HS
   obtain ⟨rfl, hb⟩ := hn
   refine ⟨rfl, ?_⟩
   rw [← HS.out]
   exact ⟨rfl, hb.of_alloc⟩
 | some r =>
   rw [hq] at hn HS
   simp only [Option.bind_some] at HS
   obtain ⟨rfl, hr, hb⟩ := hn
   have HB1 := Lib.hid (HB0.out.kept hb (by omega))
   have Hb1 := Lib.hid hb.of_alloc
   have Hr1 := Lib.hid hr
   clear hq hr hb HM HB0
   go_wp2_with fail
   refine (col_cR b r w1 Hr1.out).mono ?_
   rintro e w2 hn
   cases hq : colP r with
   | none =>
     rw [hq] at hn HS
     obtain ⟨rfl, hb⟩ := hn
     refine ⟨rfl, ?_⟩
     rw [← HS.out]
     exact ⟨rfl, Hb1.out.trans hb⟩
   | some x =>
     obtain ⟨x, r2⟩ := x
     rw [hq] at hn HS
     simp only [Option.bind_some] at HS
     obtain ⟨rfl, hr, hb⟩ := hn
     have HB2 := Lib.hid (HB1.out.kept hb (by omega))
     have Hb2 := Lib.hid (Hb1.out.trans hb)
     have Hr2 := Lib.hid hr
     clear hq hr hb Hb1 Hr1 HB1
     go_wp2_with fail
     refine (must1_c b w2.heap.size r2 s_eq (by decide) w2 rfl Hr2.out).mono ?_
     rintro e w3 hn
     cases hq : needP s_eq r2 with
     | none =>
       rw [hq] at hn HS
       obtain ⟨rfl, hb⟩ := hn
       refine ⟨rfl, ?_⟩
       rw [← HS.out]
       exact ⟨rfl, Hb2.out.trans hb⟩
     | some r3 =>
       rw [hq] at hn HS
       simp only [Option.bind_some] at HS
       obtain ⟨rfl, hr, hb⟩ := hn
       have HB3 := Lib.hid (HB2.out.kept hb (by omega))
       have Hb3 := Lib.hid (Hb2.out.trans hb)
       have Hr3 := Lib.hid hr
       clear hq hr hb Hb2 Hr2 HB2
       go_wp2_with fail
       refine (col_cR b r3 w3 Hr3.out).mono ?_
       rintro e w4 hn
       cases hq : colP r3 with
       | none =>
         rw [hq] at hn HS
         obtain ⟨rfl, hb⟩ := hn
         refine ⟨rfl, ?_⟩
         rw [← HS.out]
         exact ⟨rfl, Hb3.out.trans hb⟩
       | some y =>
         obtain ⟨y, r4⟩ := y
         rw [hq] at hn HS
         obtain ⟨rfl, hr, hb⟩ := hn
         have HB4 := Lib.hid (HB3.out.kept hb (by omega))
         have Hb4 := Lib.hid (Hb3.out.trans hb)
         have Hr4 := Lib.hid hr
         have c0 : w4.cell? ⟨w.heap.size, 0, none⟩ = some (.int .i64 0) := HB4.out.cell 0
         have c1 : w4.cell? ⟨w.heap.size, 1, none⟩ = some (.int .i64 0) := HB4.out.cell 1
         have f0 := HB4.out.thaw 0
         have f1 := HB4.out.thaw 1
         clear hq hr hb Hb3 Hr3 HB3
         go_wp2
         refine ret_on (b := w.heap.size) (x := x) (y := y) Tryz.results192 rfl (HB4.out.put [.int .i64 x, .int .i64 y] rfl) rfl ?_
         rw [← HS.out]
         exact ⟨rfl, Hr4.out.put (by omega) 0 [.int .i64 x, .int .i64 y], Hb4.out.put (Nat.le_refl _) 0 [.int .i64 x, .int .i64 y]⟩
theorem ret_ag {fn : Func} {R : Ending → World → Prop} {F : Act} {w : World} {t : Tmp} {b : Nat} {a : Ag} (hres : fn.results = #[.cell t 73]) (ht : Reg.slot F t = .pointer (some ⟨b, 0, none⟩)) (hb : Bk w b #[.int .i64 a.fn, .int .i64 a.col] 73) (hd : F.defers = [])
 (hR : R (.returned a.w) w) : bodyPost Tryz.prog fn R .ret F w := by
 have h0 : w.cell? ⟨b, 0, none⟩ = some (.int .i64 a.fn) := hb.cell 0
 have h1 : w.cell? ⟨b, 1, none⟩ = some (.int .i64 a.col) := hb.cell 1
 refine bodyPost_ret (v := a.w) ?_ hd hR
 have ht' : F.tmps[t]?.getD undef = .pointer (some ⟨b, 0, none⟩) := by simpa [Reg.slot] using ht
 simp [results, hres, ht', go_sem, h0, h1]
def AggS (b : Nat) (w : World) (o : Option (Ag × List Tk)) (e : Ending) (w' : World) : Prop := match o with
 | none => e = .panicked (boom 70) ∧ Apb b w w'
 | some q => e = .returned q.1.w ∧ Rq w' b q.2 ∧ Apb b w w'
set_option maxHeartbeats 8000000 in
theorem agg_cR (b : Nat) (l : List Tk) (w : World) (hR : Rq w b l) :
 Calls Tryz.prog 197 #[.pointer (some ⟨b, 0, none⟩)] w fun e w' => AggS b w (aggP l) e w' := by
 have hbs := hR.lt
 obtain ⟨S, hS⟩ : ∃ S, AggS b w (aggP l) = S := ⟨_, rfl⟩
 rw [hS]
 unfold aggP at hS
 have HS := Lib.hid hS
 have hN : (w.alloc (.cells #[.int .i64 0, .int .i64 0] 73)).heap.size = w.heap.size + 1 := by simp
 have HM := Lib.hid (choiceN_c b (w.heap.size + 1) l [w_count, w_sum, w_min, w_max] (by decide) (by decide) (by decide) _ hN (hR.alloc (.cells #[.int .i64 0, .int .i64 0] 73)))
 have HB0 := Lib.hid (Bk.new w #[.int .i64 0, .int .i64 0] 73)
 clear hR hS hN
 go_enter Tryz.func197, Tryz.ntmps197
 go_wp2_with fail
 refine (fns_c _).mono ?_
 rintro e w0 ⟨rfl, rfl⟩
 go_wp2_with fail
 refine HM.out.mono ?_
 rintro e w1 hn
 cases hq : oneP [w_count, w_sum, w_min, w_max] l with
 | none =>
   rw [hq] at hn HS
   obtain ⟨rfl, hb⟩ := hn
   refine ⟨rfl, ?_⟩
   rw [← HS.out]
   exact ⟨rfl, hb.of_alloc⟩
 | some k =>
   obtain ⟨k, r⟩ := k
   have hk := one_bd hq
   rw [hq] at hn HS
   simp only [Option.bind_some] at HS
   obtain ⟨rfl, hr, hb⟩ := hn
   have HB1 := Lib.hid (HB0.out.kept hb (by omega))
   have Hb1 := Lib.hid hb.of_alloc
   have Hr1 := Lib.hid hr
   have hlt := HB1.out.lt
   clear hq hr hb HM HB0
   have c0 : w1.cell? ⟨w.heap.size, 0, none⟩ = some (.int .i64 0) := HB1.out.cell 0
   have c1 : w1.cell? ⟨w.heap.size, 1, none⟩ = some (.int .i64 0) := HB1.out.cell 1
   have f0 := HB1.out.thaw 0
   have f1 := HB1.out.thaw 1
   by_cases hk0 : k = 0
   · subst hk0
     simp only [if_true] at HS
     go_wp2
     refine ret_ag (b := w.heap.size) (a := ⟨0, 0⟩) Tryz.results197 rfl ((HB1.out.put [.int .i64 0, .int .i64 0] rfl).after (below_one _ _) (by rw [putL_size]; exact hlt)) rfl ?_
     rw [← HS.out]
     exact ⟨rfl, (Hr1.out.put (by omega) 0 [.int .i64 0, .int .i64 0]).alloc _, (Hb1.out.put (Nat.le_refl _) 0 [.int .i64 0, .int .i64 0]).alloc _⟩
   · rw [if_neg hk0] at HS
     have e1 : (k == 0) = false := by simpa using hk0
     have e2 : (k != 0) = true := by simpa using hk0
     clear hk0
     have HC2 := Lib.hid (Bk.new w1 #[.int .i64 k, .int .i64 0] 73)
     have HB2 := Lib.hid (HB1.out.after (below_one w1 (.cells #[.int .i64 k, .int .i64 0] 73)) hlt)
     go_wp2_with fail
     refine (col_cR b r _ (Hr1.out.alloc (.cells #[.int .i64 k, .int .i64 0] 73))).mono ?_
     rintro e w3 hn
     cases hq : colP r with
     | none =>
       rw [hq] at hn HS
       obtain ⟨rfl, hb⟩ := hn
       refine ⟨rfl, ?_⟩
       rw [← HS.out]
       exact ⟨rfl, (Hb1.out.alloc _).trans hb⟩
     | some x =>
       obtain ⟨x, r2⟩ := x
       rw [hq] at hn HS
       obtain ⟨rfl, hr, hb⟩ := hn
       have HB3 := Lib.hid (HB2.out.kept hb (by omega))
       have HC3 := Lib.hid (HC2.out.kept hb (by omega))
       have Hb3 := Lib.hid ((Hb1.out.alloc (.cells #[.int .i64 k, .int .i64 0] 73)).trans hb)
       have Hr3 := Lib.hid hr
       clear c0 c1 f0 f1 hq hr hb Hb1 Hr1 HB1 HB2 HC2
       have c0 : w3.cell? ⟨w.heap.size, 0, none⟩ = some (.int .i64 0) := HB3.out.cell 0
       have c1 : w3.cell? ⟨w.heap.size, 1, none⟩ = some (.int .i64 0) := HB3.out.cell 1
       have f0 := HB3.out.thaw 0
       have f1 := HB3.out.thaw 1
       have d0 : w3.cell? ⟨w1.heap.size, 0, none⟩ = some (.int .i64 k) := HC3.out.cell 0
       have d1 : w3.cell? ⟨w1.heap.size, 1, none⟩ = some (.int .i64 0) := HC3.out.cell 1
       have g0 := HC3.out.thaw 0
       have g1 := HC3.out.thaw 1
       have l1 := HC3.out.lt
       have l2 := HB3.out.lt
       have hne : ¬ w.heap.size = w1.heap.size := by omega
       have hne2 : ¬ w1.heap.size = w.heap.size := by omega
       go_wp2
       refine ret_ag (b := w.heap.size) (a := ⟨k, x⟩) Tryz.results197 rfl ?_ rfl ?_
       · exact Bk.put (HB3.out.after (B := w1.heap.size) (Below.setCell (Below.refl w1.heap.size w3) (Nat.le_refl _) _) hlt) [.int .i64 k, .int .i64 x] rfl
       · rw [← HS.out]
         exact ⟨rfl, (Hr3.out.own (by omega) 1 (.int .i64 x)).put (by omega) 0 [.int .i64 k, .int .i64 x], (Hb3.out.own (by omega) 1 (.int .i64 x)).put (Nat.le_refl _) 0 [.int .i64 k, .int .i64 x]⟩
def ItemS {α : Type} (I : World → List Tk → List α → Prop) (J : World → Prop) (acc : List α) (o : Option (α × List Tk)) (e : Ending) (w' : World) : Prop := match o with
 | none => e = .panicked (boom 70) ∧ J w'
 | some q => e = .returned (.tuple #[]) ∧ I w' q.2 (acc ++ [q.1])
def ListS {α : Type} (I : World → List Tk → List α → Prop) (J : World → Prop) (acc : List α) (o : Option (List α × List Tk)) (e : Ending) (w' : World) : Prop := match o with
 | none => e = .panicked (boom 70) ∧ J w'
 | some q => e = .returned (.tuple #[]) ∧ I w' q.2 (acc ++ q.1)
set_option maxHeartbeats 8000000 in
theorem list_cR {α : Type} (p : List Tk → Option (α × List Tk)) (hp : ∀ l a, p l = some a → a.2.length ≤ l.length) (I : World → List Tk → List α → Prop) (J : World → Prop) (b : Nat) (F : Nat) (caps : Array Value)
 (hI : ∀ w l acc, I w l acc → Rq w b l) (hK : ∀ w w' l l' acc, I w l acc → Rq w' b l' → Apb b w w' → l'.length ≤ l.length → I w' l' acc)
 (hit : ∀ w l acc, I w l acc → Calls Tryz.prog F caps w fun e w' => ItemS I J acc (p l) e w')
 (hF : ∀ w, (callFunc F caps).run Tryz.prog w = .ok (.enter F caps) w) (l : List Tk) (acc : List α) (w : World) (hw : I w l acc) :
 Calls Tryz.prog 187 #[.pointer (some ⟨b, 0, none⟩), .func (.func F) #[] caps] w fun e w' => ListS I J acc (sepP p l) e w' := by
 obtain ⟨S, hS⟩ : ∃ S, ListS I J acc (sepP p l) = S := ⟨_, rfl⟩
 rw [hS]
 rw [sepP_eq hp] at hS
 have HS := Lib.hid hS
 have HI := Lib.hid hI
 have HK := Lib.hid hK
 have Hit := Lib.hid hit
 have Hw := Lib.hid hw
 have Hp := Lib.hid hp
 clear hS hI hK hit hw hp
 go_enter Tryz.func187, Tryz.ntmps187
 go_wp2_with fail
 refine (Hit.out w l acc Hw.out).mono ?_
 rintro e w1 hn
 cases hq : p l with
 | none =>
   rw [hq] at hn HS
   obtain ⟨rfl, hj⟩ := hn
   refine ⟨rfl, ?_⟩
   rw [← HS.out]
   exact ⟨rfl, hj⟩
 | some a =>
   obtain ⟨a, r⟩ := a
   rw [hq] at hn HS
   simp only [Option.bind_some] at HS
   obtain ⟨rfl, hi⟩ := hn
   have Hi := Lib.hid hi
   clear hi hq
   go_wp2_with fail
   go_loopw [8] (fun _ wr => ∃ (xs : List α) (rest : List Tk), Hid (I wr rest (acc ++ xs)) ∧ Hid (∀ o, tailG p rest = o → S = ListS I J acc (o.map fun q => (xs ++ q.1, q.2)))) (fun _ wr => rqLen wr b)
   case atStart => exact ⟨[a], r, Hi, Lib.hid (fun o ho => by rw [← HS.out, ho]; rfl)⟩
   case round =>
    obtain ⟨xs, rest, hi, hs⟩ := hrel
    have hr := HI.out _ _ _ hi.out
    have HH := Lib.hid (has1_c b wr.heap.size rest s_cm (by decide) wr rfl hr)
    have HL := Lib.hid hr.left
    clear hr
    cases hq : (takeP s_cm rest).1
    · rw [hq] at HH
      have hS := hs.out (some ([], rest)) (by unfold tailG; rw [hq]; rfl)
      have HSS := Lib.hid hS
      rw [take_no hq] at HH
      clear hS hs hq
      go_wp2_with fail
      refine HH.out.mono ?_
      rintro e w2 ⟨rfl, hr2, hb2⟩
      have Hi2 := Lib.hid (HK.out _ _ _ _ _ hi.out hr2 hb2 (Nat.le_refl _))
      clear hr2 hb2 HH
      go_wp2
      go_end0
      rw [HSS.out]
      refine ⟨rfl, ?_⟩
      show I w2 rest (acc ++ (xs ++ []))
      rw [List.append_nil]
      exact Hi2.out
    · rw [hq] at HH
      obtain ⟨l2, hl2⟩ : ∃ l2, (takeP s_cm rest).2 = l2 := ⟨_, rfl⟩
      have hlt2 : l2.length < rest.length := by rw [← hl2]; exact (take_len s_cm rest).2 hq
      have hS : ∀ o, sepP p l2 = o → S = ListS I J acc (o.map fun q => (xs ++ q.1, q.2)) := fun o ho => hs.out o (by unfold tailG; rw [hq, hl2]; exact ho)
      have HSS := Lib.hid hS
      have Hlt2 := Lib.hid hlt2
      rw [hl2] at HH
      clear hS hs hq hl2 hlt2
      go_wp2_with fail
      refine HH.out.mono ?_
      rintro e w2 ⟨rfl, hr2, hb2⟩
      have Hi2 := Lib.hid (HK.out _ _ _ _ _ hi.out hr2 hb2 (Nat.le_of_lt Hlt2.out))
      clear hr2 hb2 HH
      go_wp2_with fail
      refine (Hit.out w2 l2 (acc ++ xs) Hi2.out).mono ?_
      rintro e w3 hn
      cases hq : p l2 with
      | none =>
        rw [hq] at hn
        obtain ⟨rfl, hj⟩ := hn
        refine ⟨rfl, ?_⟩
        rw [HSS.out none (by rw [sepP_eq Hp.out, hq]; rfl)]
        exact ⟨rfl, hj⟩
      | some a2 =>
        rw [hq] at hn
        obtain ⟨rfl, hi3⟩ := hn
        obtain ⟨a2, r3⟩ := a2
        have hle := Hp.out l2 _ hq
        have Hle := Lib.hid hle
        have Hi3 := Lib.hid hi3
        have hS3 : ∀ o, tailG p r3 = o → S = ListS I J acc (o.map fun q => ((xs ++ [a2]) ++ q.1, q.2)) := fun o ho => by
         rw [HSS.out (o.map fun q => (a2 :: q.1, q.2)) (by rw [sepP_eq Hp.out, hq, Option.bind_some, ho])]
         cases o with
         | none => rfl
         | some q => simp
        have HS3 := Lib.hid hS3
        clear hq hi3 hle hS3 HSS
        go_wp2_with fail
        go_roundw
        case rel =>
         refine ⟨xs ++ [a2], r3, ?_, HS3⟩
         rw [← List.append_assoc]
         exact Hi3
        case measure =>
         have h1 := (HI.out _ _ _ Hi3.out).left
         have h2 := HL.out
         have h3 := Hlt2.out
         have h4 : r3.length ≤ l2.length := Hle.out
         omega
theorem cOk7 : ElOk Tryz.prog 26 41 6 56 cl0.w rdCl where
 under := Tryz.underlying26
 info := by kernel_rfl
 zs := rfl
 pos := by decide
 len := fun _ => rfl
 one := fun x u hu => by
  simp [rdCl] at hu
  rcases hu with rfl | rfl | rfl | rfl | rfl | rfl <;> rfl
theorem step_callO {P : Program} {ops : Array Oper} {o : Oper} {a : Act} {w : World} {K : Act → World → Prop} {Q : Exit → Act → World → Prop} {F : Prop} (hgd : o.guard = none) (f : FuncId) (args : Array Value) (hrun : (execOp a.eval o).run P w = .ok (.enter f args) w)
 (v : Value) (R : World → Prop) (hc : Calls P f args w fun e w' => (e = .returned v ∧ R w') ∨ (∃ ch, e = .panicked ch ∧ Q (.panic ch) a w')) (h : ∀ w', R w' → K (a.put o.dst v) w') : if Region.wanted o (yielded ops a.tmps) = true then Oper.wp P o a w K Q else F := by
 have hw : Region.wanted o (yielded ops a.tmps) = true := by simp [Region.wanted, hgd]
 rw [if_pos hw]
 unfold Oper.wp
 rw [hrun]
 refine hc.mono ?_
 rintro e w' (⟨rfl, hr⟩ | ⟨ch, rfl, hq⟩)
 · exact h w' hr
 · exact hq
structure CI (b C rb : Nat) (nm : ByteArray) (w0 w : World) (l : List Tk) (acc : List Cl) : Prop where
 rq : Rq w b l
 ap : Apb b w0 w
 sl : ∃ v, Bk w C #[.string nm, v, .slice none 0 0] 29 ∧ OwnG w (C + 1) 41 6 rdCl v acc
 bx : Bk w rb #[.pointer (some ⟨b, 0, none⟩)] 217
 len : acc.length + l.length ≤ 20000
 b0 : b < w0.heap.size
 rb0 : w0.heap.size ≤ C ∧ b ≠ rb
 c0 : rb < C
theorem CI.keep {b C rb : Nat} {nm : ByteArray} {w0 w w' : World} {l l' : List Tk} {acc : List Cl} (h : CI b C rb nm w0 w l acc) (hr : Rq w' b l') (hb : Apb b w w') (hl : l'.length ≤ l.length) : CI b C rb nm w0 w' l' acc := by
 have h1 := h.b0
 have h2 := h.rb0
 have h3 := h.c0
 have h4 := h.len
 obtain ⟨v, hv, ho⟩ := h.sl
 exact ⟨hr, h.ap.trans hb, ⟨v, hv.kept hb (by omega), ho.kept hb (by omega)⟩, h.bx.kept hb (by omega), by omega, h1, h2, h3⟩
set_option maxHeartbeats 8000000 in
theorem col1_c (b C rb : Nat) (nm : ByteArray) (w0 w : World) (l : List Tk) (acc : List Cl) (hi : CI b C rb nm w0 w l acc) :
 Calls Tryz.prog 188 #[.pointer (some ⟨C, 0, none⟩), .pointer (some ⟨rb, 0, none⟩)] w fun e w' => ItemS (CI b C rb nm w0) (Apb b w0) acc (columnP l) e w' := by
 obtain ⟨S, hS⟩ : ∃ S, ItemS (CI b C rb nm w0) (Apb b w0) acc (columnP l) = S := ⟨_, rfl⟩
 rw [hS]
 have HC := Lib.hid (fun u (hu : Rq u b l) => column_cR b l u hu)
 have Hi := Lib.hid hi
 have HS := Lib.hid hS
 obtain ⟨v, hv, ho⟩ := hi.sl
 have HV := Lib.hid hv
 have HO := Lib.hid ho
 have c1 : w.cell? ⟨C, 1, none⟩ = some v := hv.cell 1
 have f1 := hv.thaw 1
 have p0 : w.cell? ⟨rb, 0, none⟩ = some (.pointer (some ⟨b, 0, none⟩)) := hi.bx.cell 0
 have hlC := hv.lt
 have hlr := hi.bx.lt
 have hbC : b < C := by have := hi.b0; have := hi.rb0; have := hi.c0; omega
 have hln := hi.len
 have hw0C : w0.heap.size ≤ C := by have := hi.rb0; have := hi.c0; omega
 obtain ⟨x, hx⟩ : ∃ x : Cl, ((columnP l).map (·.1)).getD cl0 = x := ⟨_, rfl⟩
 have Hx := Lib.hid hx
 clear hi hv ho hS hx
 go_enter Tryz.func188, Tryz.ntmps188
 go_region_law (first
  | (refine step_callO rfl 189 #[.pointer (some ⟨b, 0, none⟩)] (by kernel_rfl) x.w (fun w' => ∃ r, columnP l = some (x, r) ∧ Rq w' b r ∧ Apb b w w') ((HC.out _ Hi.out.rq.drew).mono ?_) ?_
     · intro e w1 hn
       cases hq : columnP l with
       | none =>
         rw [hq] at hn
         refine .inr ⟨_, hn.1, rfl, ?_⟩
         rw [← HS.out, hq]
         exact ⟨rfl, Hi.out.ap.drew.trans hn.2⟩
       | some q =>
         obtain ⟨y, r⟩ := q
         have e := Hx.out
         rw [hq] at hn e
         have e : y = x := e
         subst e
         exact .inl ⟨hn.1, r, rfl, hn.2.1, (Apb.refl b w).drew.trans hn.2.2⟩
     rintro w1 ⟨r, hq1, hr1, hb1⟩
     have Hq1 := Lib.hid hq1
     have Hr1 := Lib.hid hr1
     have Hb1 := Lib.hid hb1
     have HV1 := Lib.hid (HV.out.kept hb1 (by omega))
     have HO1 := Lib.hid (HO.out.kept hb1 (by omega))
     have c1' : w1.cell? ⟨C, 1, none⟩ = some v := HV1.out.cell 1
     have f1' := HV1.out.thaw 1
     have hlC1 := HV1.out.lt
     have hle := column_len hq1
     simp only at hle
     clear hq1 hr1 hb1)
  | (refine step_appG cOk7 rfl (.tmp 3) (.tmp 6) rfl (C + 1) v acc [x] rfl (HO1.out.alloc _) (some ⟨w1.heap.size, 0, none⟩) 1 1 rfl rfl (by simp) (SlG.new cOk7.len [x] rfl) (by simp [maxLen]; omega) (by simp; omega) (by simp; omega) ?_
     intro g2 cap w2 hv2 hg2
     have hbk2 : ∀ k, k ≤ C → w2.heap[k]? = w1.heap[k]? := fun k hk => (hg2.block k (by simp; omega) (fun e => by have := (HO1.out.lt _ e.symm).1; omega)).trans (Below.heap_alloc _ _ k (by omega))
     have Hbk2 := Lib.hid hbk2
     have HO2 := Lib.hid hv2
     have Hg2 := Lib.hid (((Hi.out.ap.trans Hb1.out).alloc (.cells #[.string x.name, .int .i64 x.kind, .bool x.nul, .bool x.uni, .string x.ref, .int .i64 x.act] 41)).grown hg2 (fun k hk => by have := (HO1.out.lt k hk).1; omega))
     have HV2 : Hid (Bk w2 C #[.string nm, v, .slice none 0 0] 29) := Lib.hid ((hbk2 C (Nat.le_refl _)).trans HV1.out)
     have c2' : w2.cell? ⟨C, 1, none⟩ = some v := HV2.out.cell 1
     have f2' := HV2.out.thaw 1
     have hlC2 := HV2.out.lt
     clear hv2 hg2 hbk2))
 all_goals
  go_end0
  rw [← HS.out, Hq1.out]
  refine ⟨rfl, ⟨?_, Hg2.out.own (by omega) 1 _, ⟨_, HV2.out.set 1 _, ?_⟩, ?_, by simp; omega, Hi.out.b0, Hi.out.rb0, Hi.out.c0⟩⟩
  · exact (Hr1.out.same fun k hk => Hbk2.out k (by omega)).own (by omega) 1 _
  · have h2 := HO2.out.same (w' := w2.setCell ⟨C, 1, none⟩ (.slice (some ⟨g2, 0, none⟩) (acc.length + [x].length) cap)) (fun k hk => Below.heap_setCell _ _ _ _ (by have := (HO2.out.lt k hk).1; show k ≠ C; omega))
    exact h2
  · exact (Below.heap_setCell _ _ _ _ (show rb ≠ C by have := Hi.out.c0; omega)).trans ((Hbk2.out rb (by have := Hi.out.c0; omega)).trans (Hi.out.bx.kept Hb1.out (by have := Hi.out.b0; have := Hi.out.rb0; omega)))
def NumS (b : Nat) (w : World) (o : Option (Int × List Tk)) (e : Ending) (w' : World) : Prop := match o with
 | none => e = .panicked (boom 70) ∧ Apb b w w'
 | some q => e = .returned (.int .i64 q.1) ∧ Rq w' b q.2 ∧ Apb b w w'
theorem aOk7 : ElOk Tryz.prog 34 73 2 16 (.agg #[.int .i64 0, .int .i64 0]) rdAg where
 under := Tryz.underlying34
 info := by kernel_rfl
 zs := rfl
 pos := by decide
 len := fun _ => rfl
 one := fun x u hu => by
  simp [rdAg] at hu
  rcases hu with rfl | rfl <;> rfl
def csP (nm fr wt : ByteArray) (o0 o1 : Int) (wv v : Value) : Array Value := #[.string nm, .string fr, .string wt, .int .i64 o0, .int .i64 o1, wv, v, .bool false, .slice none 0 0]
structure VIP (b V rb Bp : Nat) (cs : Value → Array Value) (w0 w1 w : World) (l : List Tk) (acc : List Int) : Prop where
 rq : Rq w b l
 ap : Apb b w0 w
 sl : ∃ v, Bk w V (cs v) 36 ∧ OwnG w Bp 3 1 rdI v acc
 kp : ∀ k, k < Bp → k ≠ b → k ≠ V → w.heap[k]? = w1.heap[k]?
 bx : Bk w1 rb #[.pointer (some ⟨b, 0, none⟩)] 217
 len : acc.length + l.length ≤ 20000
 b0 : b < w0.heap.size
 rb0 : w0.heap.size ≤ V ∧ b ≠ rb
 c0 : rb < V
 v0 : V < Bp
 sz : Bp ≤ w.heap.size
theorem VIP.keep {b V rb Bp : Nat} {cs : Value → Array Value} {w0 w1 w w' : World} {l l' : List Tk} {acc : List Int} (h : VIP b V rb Bp cs w0 w1 w l acc) (hr : Rq w' b l') (hb : Apb b w w') (hl : l'.length ≤ l.length) : VIP b V rb Bp cs w0 w1 w' l' acc := by
 have h1 := h.b0
 have h2 := h.rb0
 have h3 := h.c0
 have h4 := h.len
 have h5 := h.v0
 have h6 := h.sz
 obtain ⟨v, hv, ho⟩ := h.sl
 exact ⟨hr, h.ap.trans hb, ⟨v, hv.kept hb (by omega), ho.kept hb (by omega)⟩, fun k a1 a2 a3 => (hb.other k (by omega) a2).trans (h.kp k a1 a2 a3), h.bx, by omega, h1, h2, h3, h5, Nat.le_trans h6 hb.size⟩
set_option maxHeartbeats 8000000 in
theorem pick1_c (nm fr wt : ByteArray) (o0 o1 : Int) (wv : Value) (b V rb Bp : Nat) (w0 w1 w : World) (l : List Tk) (acc : List Int) (hi : VIP b V rb Bp (csP nm fr wt o0 o1 wv) w0 w1 w l acc) :
 Calls Tryz.prog 194 #[.pointer (some ⟨V, 0, none⟩), .pointer (some ⟨rb, 0, none⟩)] w fun e w' => ItemS (VIP b V rb Bp (csP nm fr wt o0 o1 wv) w0 w1) (Apb b w0) acc (colP l) e w' := by
 obtain ⟨S, hS⟩ : ∃ S, ItemS (VIP b V rb Bp (csP nm fr wt o0 o1 wv) w0 w1) (Apb b w0) acc (colP l) = S := ⟨_, rfl⟩
 rw [hS]
 have HC := Lib.hid (fun u (hu : Rq u b l) => show Calls Tryz.prog 195 #[.pointer (some ⟨b, 0, none⟩)] u (fun e w' => NumS b u (colP l) e w') from col_cR b l u hu)
 have Hi := Lib.hid hi
 have HS := Lib.hid hS
 obtain ⟨v, hv, ho⟩ := hi.sl
 have HV := Lib.hid hv
 have HO := Lib.hid ho
 have c1 : w.cell? ⟨V, 6, none⟩ = some v := hv.cell 6
 have f1 := hv.thaw 6
 have hlC := hv.lt
 have hbV : b < V := by have := hi.b0; have := hi.rb0; have := hi.c0; omega
 have hw0V : w0.heap.size ≤ V := by have := hi.rb0; have := hi.c0; omega
 have hVB := hi.v0
 have hrV := hi.c0
 have hbr : b ≠ rb := hi.rb0.2
 have hbx : Bk w rb #[.pointer (some ⟨b, 0, none⟩)] 217 := (hi.kp rb (by omega) (by omega) (by omega)).trans hi.bx
 have p0 : w.cell? ⟨rb, 0, none⟩ = some (.pointer (some ⟨b, 0, none⟩)) := hbx.cell 0
 have hlr := hbx.lt
 have hln := hi.len
 have hsz := hi.sz
 obtain ⟨x, hx⟩ : ∃ x : Int, ((colP l).map (·.1)).getD 0 = x := ⟨_, rfl⟩
 have Hx := Lib.hid hx
 clear hi hv ho hS hx hbx
 go_enter Tryz.func194, Tryz.ntmps194
 go_region_law (first
  | (refine step_callO rfl 195 #[.pointer (some ⟨b, 0, none⟩)] (by kernel_rfl) (.int .i64 x) (fun w' => ∃ r, colP l = some (x, r) ∧ Rq w' b r ∧ Apb b w w') ((HC.out _ Hi.out.rq.drew).mono ?_) ?_
     · intro e w1 hn
       cases hq : colP l with
       | none =>
         rw [hq] at hn
         refine .inr ⟨_, hn.1, rfl, ?_⟩
         rw [← HS.out, hq]
         exact ⟨rfl, Hi.out.ap.drew.trans hn.2⟩
       | some q =>
         obtain ⟨y, r⟩ := q
         have e := Hx.out
         rw [hq] at hn e
         have e : y = x := e
         subst e
         exact .inl ⟨hn.1, r, rfl, hn.2.1, (Apb.refl b w).drew.trans hn.2.2⟩
     rintro wx ⟨r, hq1, hr1, hb1⟩
     have Hq1 := Lib.hid hq1
     have Hr1 := Lib.hid hr1
     have Hb1 := Lib.hid hb1
     have HV1 := Lib.hid (HV.out.kept hb1 (by omega))
     have HO1 := Lib.hid (HO.out.kept hb1 (by omega))
     have c1' : wx.cell? ⟨V, 6, none⟩ = some v := HV1.out.cell 6
     have f1' := HV1.out.thaw 6
     have hlC1 := HV1.out.lt
     have hle := col_len hq1
     have hsx := hb1.size
     try simp only at hle
     clear hq1 hr1 hb1)
  | (refine step_appG iOk rfl (.tmp 3) (.tmp 6) rfl Bp v acc [x] rfl (HO1.out.alloc _) (some ⟨wx.heap.size, 0, none⟩) 1 1 rfl rfl (by simp) (SlG.new iOk.len [x] rfl) (by simp [maxLen]; omega) (by simp; omega) (by simp; omega) ?_
     intro g2 cap w2 hv2 hg2
     have hbk2 : ∀ k, k < Bp → w2.heap[k]? = wx.heap[k]? := fun k hk => (hg2.block k (by simp; omega) (fun e => by have := (HO1.out.lt _ e.symm).1; omega)).trans (Below.heap_alloc _ _ k (by omega))
     have Hbk2 := Lib.hid hbk2
     have HO2 := Lib.hid hv2
     have hs2 : wx.heap.size ≤ w2.heap.size := by have := hg2.size; simp at this; omega
     have Hg2 := Lib.hid (((Hi.out.ap.trans Hb1.out).alloc (.cells #[.int .i64 x] 3)).grown hg2 (fun k hk => by have := (HO1.out.lt k hk).1; omega))
     have HV2 : Hid (Bk w2 V (csP nm fr wt o0 o1 wv v) 36) := Lib.hid ((hbk2 V hVB).trans HV1.out)
     have c2' : w2.cell? ⟨V, 6, none⟩ = some v := HV2.out.cell 6
     have f2' := HV2.out.thaw 6
     have hlC2 := HV2.out.lt
     clear hv2 hg2 hbk2))
 all_goals
  go_end0
  rw [← HS.out, Hq1.out]
  refine ⟨rfl, ⟨?_, Hg2.out.own (by omega) 6 _, ⟨_, HV2.out.set 6 _, ?_⟩, ?_, Hi.out.bx, by simp; omega, Hi.out.b0, Hi.out.rb0, Hi.out.c0, Hi.out.v0, by simp [World.setCell]; omega⟩⟩
  · exact (Hr1.out.same fun k hk => Hbk2.out k (by omega)).own (by omega) 6 _
  · have h2 := HO2.out.same (w' := w2.setCell ⟨V, 6, none⟩ (.slice (some ⟨g2, 0, none⟩) (acc.length + [x].length) cap)) (fun k hk => Below.heap_setCell _ _ _ _ (by have := (HO2.out.lt k hk).1; show k ≠ V; omega))
    exact h2
  · intro k a1 a2 a3
    exact (Below.heap_setCell _ _ _ _ (show k ≠ V from a3)).trans ((Hbk2.out k a1).trans ((Hb1.out.other k (by omega) a2).trans (Hi.out.kp k a1 a2 a3)))
def csA (nm fr wt : ByteArray) (o0 o1 : Int) (wv pv v : Value) : Array Value := #[.string nm, .string fr, .string wt, .int .i64 o0, .int .i64 o1, wv, pv, .bool true, v]
structure VIA (b V rb Bp : Nat) (cs : Value → Array Value) (w0 w1 w : World) (l : List Tk) (acc : List Ag) : Prop where
 rq : Rq w b l
 ap : Apb b w0 w
 sl : ∃ v, Bk w V (cs v) 36 ∧ OwnG w Bp 73 2 rdAg v acc
 kp : ∀ k, k < Bp → k ≠ b → k ≠ V → w.heap[k]? = w1.heap[k]?
 bx : Bk w1 rb #[.pointer (some ⟨b, 0, none⟩)] 217
 len : acc.length + l.length ≤ 20000
 b0 : b < w0.heap.size
 rb0 : w0.heap.size ≤ V ∧ b ≠ rb
 c0 : rb < V
 v0 : V < Bp
 sz : Bp ≤ w.heap.size
theorem VIA.keep {b V rb Bp : Nat} {cs : Value → Array Value} {w0 w1 w w' : World} {l l' : List Tk} {acc : List Ag} (h : VIA b V rb Bp cs w0 w1 w l acc) (hr : Rq w' b l') (hb : Apb b w w') (hl : l'.length ≤ l.length) : VIA b V rb Bp cs w0 w1 w' l' acc := by
 have h1 := h.b0
 have h2 := h.rb0
 have h3 := h.c0
 have h4 := h.len
 have h5 := h.v0
 have h6 := h.sz
 obtain ⟨v, hv, ho⟩ := h.sl
 exact ⟨hr, h.ap.trans hb, ⟨v, hv.kept hb (by omega), ho.kept hb (by omega)⟩, fun k a1 a2 a3 => (hb.other k (by omega) a2).trans (h.kp k a1 a2 a3), h.bx, by omega, h1, h2, h3, h5, Nat.le_trans h6 hb.size⟩
set_option maxHeartbeats 8000000 in
theorem agg1_c (nm fr wt : ByteArray) (o0 o1 : Int) (wv pv : Value) (b V rb Bp : Nat) (w0 w1 w : World) (l : List Tk) (acc : List Ag) (hi : VIA b V rb Bp (csA nm fr wt o0 o1 wv pv) w0 w1 w l acc) :
 Calls Tryz.prog 196 #[.pointer (some ⟨V, 0, none⟩), .pointer (some ⟨rb, 0, none⟩)] w fun e w' => ItemS (VIA b V rb Bp (csA nm fr wt o0 o1 wv pv) w0 w1) (Apb b w0) acc (aggP l) e w' := by
 obtain ⟨S, hS⟩ : ∃ S, ItemS (VIA b V rb Bp (csA nm fr wt o0 o1 wv pv) w0 w1) (Apb b w0) acc (aggP l) = S := ⟨_, rfl⟩
 rw [hS]
 have HC := Lib.hid (fun u (hu : Rq u b l) => agg_cR b l u hu)
 have Hi := Lib.hid hi
 have HS := Lib.hid hS
 obtain ⟨v, hv, ho⟩ := hi.sl
 have HV := Lib.hid hv
 have HO := Lib.hid ho
 have c1 : w.cell? ⟨V, 8, none⟩ = some v := hv.cell 8
 have f1 := hv.thaw 8
 have hlC := hv.lt
 have hbV : b < V := by have := hi.b0; have := hi.rb0; have := hi.c0; omega
 have hw0V : w0.heap.size ≤ V := by have := hi.rb0; have := hi.c0; omega
 have hVB := hi.v0
 have hrV := hi.c0
 have hbr : b ≠ rb := hi.rb0.2
 have hbx : Bk w rb #[.pointer (some ⟨b, 0, none⟩)] 217 := (hi.kp rb (by omega) (by omega) (by omega)).trans hi.bx
 have p0 : w.cell? ⟨rb, 0, none⟩ = some (.pointer (some ⟨b, 0, none⟩)) := hbx.cell 0
 have hlr := hbx.lt
 have hln := hi.len
 have hsz := hi.sz
 obtain ⟨x, hx⟩ : ∃ x : Ag, ((aggP l).map (·.1)).getD ⟨0, 0⟩ = x := ⟨_, rfl⟩
 have Hx := Lib.hid hx
 clear hi hv ho hS hx hbx
 go_enter Tryz.func196, Tryz.ntmps196
 go_region_law (first
  | (refine step_callO rfl 197 #[.pointer (some ⟨b, 0, none⟩)] (by kernel_rfl) x.w (fun w' => ∃ r, aggP l = some (x, r) ∧ Rq w' b r ∧ Apb b w w') ((HC.out _ Hi.out.rq.drew).mono ?_) ?_
     · intro e w1 hn
       cases hq : aggP l with
       | none =>
         rw [hq] at hn
         refine .inr ⟨_, hn.1, rfl, ?_⟩
         rw [← HS.out, hq]
         exact ⟨rfl, Hi.out.ap.drew.trans hn.2⟩
       | some q =>
         obtain ⟨y, r⟩ := q
         have e := Hx.out
         rw [hq] at hn e
         have e : y = x := e
         subst e
         exact .inl ⟨hn.1, r, rfl, hn.2.1, (Apb.refl b w).drew.trans hn.2.2⟩
     rintro wx ⟨r, hq1, hr1, hb1⟩
     have Hq1 := Lib.hid hq1
     have Hr1 := Lib.hid hr1
     have Hb1 := Lib.hid hb1
     have HV1 := Lib.hid (HV.out.kept hb1 (by omega))
     have HO1 := Lib.hid (HO.out.kept hb1 (by omega))
     have c1' : wx.cell? ⟨V, 8, none⟩ = some v := HV1.out.cell 8
     have f1' := HV1.out.thaw 8
     have hlC1 := HV1.out.lt
     have hle := agg_len hq1
     have hsx := hb1.size
     try simp only at hle
     clear hq1 hr1 hb1)
  | (refine step_appG aOk7 rfl (.tmp 3) (.tmp 6) rfl Bp v acc [x] rfl (HO1.out.alloc _) (some ⟨wx.heap.size, 0, none⟩) 1 1 rfl rfl (by simp) (SlG.new aOk7.len [x] rfl) (by simp [maxLen]; omega) (by simp; omega) (by simp; omega) ?_
     intro g2 cap w2 hv2 hg2
     have hbk2 : ∀ k, k < Bp → w2.heap[k]? = wx.heap[k]? := fun k hk => (hg2.block k (by simp; omega) (fun e => by have := (HO1.out.lt _ e.symm).1; omega)).trans (Below.heap_alloc _ _ k (by omega))
     have Hbk2 := Lib.hid hbk2
     have HO2 := Lib.hid hv2
     have hs2 : wx.heap.size ≤ w2.heap.size := by have := hg2.size; simp at this; omega
     have Hg2 := Lib.hid (((Hi.out.ap.trans Hb1.out).alloc (.cells #[.int .i64 x.fn, .int .i64 x.col] 73)).grown hg2 (fun k hk => by have := (HO1.out.lt k hk).1; omega))
     have HV2 : Hid (Bk w2 V (csA nm fr wt o0 o1 wv pv v) 36) := Lib.hid ((hbk2 V hVB).trans HV1.out)
     have c2' : w2.cell? ⟨V, 8, none⟩ = some v := HV2.out.cell 8
     have f2' := HV2.out.thaw 8
     have hlC2 := HV2.out.lt
     clear hv2 hg2 hbk2))
 all_goals
  go_end0
  rw [← HS.out, Hq1.out]
  refine ⟨rfl, ⟨?_, Hg2.out.own (by omega) 8 _, ⟨_, HV2.out.set 8 _, ?_⟩, ?_, Hi.out.bx, by simp; omega, Hi.out.b0, Hi.out.rb0, Hi.out.c0, Hi.out.v0, by simp [World.setCell]; omega⟩⟩
  · exact (Hr1.out.same fun k hk => Hbk2.out k (by omega)).own (by omega) 8 _
  · have h2 := HO2.out.same (w' := w2.setCell ⟨V, 8, none⟩ (.slice (some ⟨g2, 0, none⟩) (acc.length + [x].length) cap)) (fun k hk => Below.heap_setCell _ _ _ _ (by have := (HO2.out.lt k hk).1; show k ≠ V; omega))
    exact h2
  · intro k a1 a2 a3
    exact (Below.heap_setCell _ _ _ _ (show k ≠ V from a3)).trans ((Hbk2.out k a1).trans ((Hb1.out.other k (by omega) a2).trans (Hi.out.kp k a1 a2 a3)))
theorem step_appG0 {α : Type} {rd : α → List Value} {S : Nat} {P : Program} {T E : TypeId} {bytes : Nat} {z : Value} {ops : Array Oper} {o : Oper} {a : Act} {w : World} {K : Act → World → Prop} {Q : Exit → Act → World → Prop} {F : Prop} (he : ElOk P T E S bytes z rd) (hgd : o.guard = none) (s y : Operand) (ho : o.op = .call { callee := .builtin .append, args := #[s, y], argTypes := #[T, T] })
 (B : Nat) (v : Value) (xs : List α) (hs : a.eval s = v) (hb : OwnG w B E S rd v xs) (A : Option Addr) (c : Nat) (hy : a.eval y = .slice A 0 c)
 (h : K (a.put o.dst v) w) : if Region.wanted o (yielded ops a.tmps) = true then Oper.wp P o a w K Q else F := by
 have hw : Region.wanted o (yielded ops a.tmps) = true := by simp [Region.wanted, hgd]
 rw [if_pos hw]
 have hr : (Builtin.append_ #[T, T] o.type #[v, .slice A 0 c]).run P w = .ok v w := by
  obtain ⟨i0, hi, hz0, hz1, hz2⟩ := he.parts
  cases A with
  | none => exact app_none he w v B c o.type xs hb
  | some ad =>
    have hl : (loadCells ad 0).run P w = .ok #[] w := by simp [loadCells, loadCellsFrom]
    rcases hb.2 with ⟨rfl, _⟩ | ⟨g, cap, cur, rfl, _, _, hnc, _⟩
    · simp [Builtin.append_, run_underlying he.under, sizeOf, typeInfo, hi, Builtin.lenOf, Builtin.firstCells, hl]
    · simp [Builtin.append_, run_underlying he.under, sizeOf, typeInfo, hi, Builtin.lenOf, Builtin.firstCells, hnc, storeCells, hl]
 unfold Oper.wp execOp
 simp only [ho, resolve, invoke, builtin, Sem.run_bind, Sem.run_pure, Result.andThen_ok, List.map_toArray, List.map_cons, List.map_nil, hs, hy, hr]
 exact h
section
variable {α : Type} {rd : α → List Value} {S : Nat} {P : Program} {T E : TypeId} {bytes : Nat} {z : Value}
theorem wpList_appL {ops : Array Oper} {rest : List Oper} {o : Oper} {a : Act} {Q : Exit → Act → World → Prop} {w : World} (he : ElOk P T E S bytes z rd) (hgd : o.guard = none) (s x : Operand) (ho : o.op = .call { callee := .builtin .append, args := #[s, x], argTypes := #[T, T] })
 (B : Nat) (v : Value) (xs ys : List α) (A : Option Addr) (n c : Nat) (hs : a.eval s = v) (hb : OwnG w B E S rd v xs) (hx : a.eval x = .slice A n c) (hn : ys.length = n) (hsl : SlG w A S rd ys)
 (hmax : xs.length + ys.length ≤ maxLen) (hbytes : (xs.length + ys.length) * bytes ≤ 140737488355328) (hB : B ≤ w.heap.size)
 (h : ∀ v' w', OwnG w' B E S rd v' (xs ++ ys) → w.grownBy w' v.ownBlock → (v'.ownBlock = v.ownBlock ∨ v'.ownBlock = some w.heap.size) → wpList P ops Q rest (a.put o.dst v') w') : wpList P ops Q (o :: rest) a w := by
 obtain ⟨i0, hi, hz0, hz1, hz2⟩ := he.parts
 subst hn
 have some_case : ∀ (ad : Addr), A = some ad → (∀ j u, (ys.flatMap rd)[j]? = some u → w.cell? (ad.add j) = some u) → wpList P ops Q (o :: rest) a w := by
  intro ad hA hcells
  subst hA
  refine wpList_append_own_at _ hgd s x T ho B E i0 z S bytes he.under hi hz0 hz1 hz2 he.zs he.pos v xs.length (xs.flatMap rd) hs hb ad ys.length c (ys.flatMap rd) hx (flat_len he.len ys) hcells (fun u hu => by obtain ⟨q, _, hq⟩ := List.mem_flatMap.1 hu; exact he.one q u hq) hmax hbytes hB ?_
  intro v' w' hown' hgrow _ hlies
  refine h v' w' ?_ hgrow hlies
  unfold OwnG
  rw [List.flatMap_append, List.length_append]
  exact hown'
 rcases hsl with rfl | ⟨b, off, hA, hlt, hc⟩
 · cases A with
   | some ad => exact some_case ad rfl (fun j u hj => by simp at hj)
   | none =>
     refine wpList_plain hgd fun K hK => ?_
     have hr := app_none he w v B c o.type xs hb
     unfold Oper.wp execOp
     have hx' : a.eval x = .slice none 0 c := hx
     simp only [ho, resolve, invoke, builtin, Sem.run_bind, Sem.run_pure, Result.andThen_ok, List.map_toArray, List.map_cons, List.map_nil, hs, hx', hr]
     exact hK _ _ (h v w (by rw [List.append_nil]; exact hb) (World.grownBy.refl w _) (.inl rfl))
 · refine some_case ⟨b, off, none⟩ hA fun j u hj => ?_
   rw [Go.WideShapes.add_plain]
   exact SlG.flat he.len he.pos hc j u hj
theorem step_appL {ops : Array Oper} {o : Oper} {a : Act} {w : World} {K : Act → World → Prop} {Q : Exit → Act → World → Prop} {F : Prop} (he : ElOk P T E S bytes z rd) (hgd : o.guard = none) (s y : Operand) (ho : o.op = .call { callee := .builtin .append, args := #[s, y], argTypes := #[T, T] })
 (B : Nat) (v : Value) (xs ys : List α) (hs : a.eval s = v) (hb : OwnG w B E S rd v xs) (A : Option Addr) (n c : Nat) (hy : a.eval y = .slice A n c) (hn : ys.length = n) (hsl : SlG w A S rd ys)
 (hmax : xs.length + ys.length ≤ maxLen) (hbytes : (xs.length + ys.length) * bytes ≤ 140737488355328) (hB : B ≤ w.heap.size)
 (h : ∀ A' c' w', OwnG w' B E S rd (.slice A' (xs.length + ys.length) c') (xs ++ ys) → w.grownBy w' v.ownBlock → ((Value.slice A' (xs.length + ys.length) c').ownBlock = v.ownBlock ∨ (Value.slice A' (xs.length + ys.length) c').ownBlock = some w.heap.size) → K (a.put o.dst (.slice A' (xs.length + ys.length) c')) w') :
 if Region.wanted o (yielded ops a.tmps) = true then Oper.wp P o a w K Q else F := by
 by_cases hne : ys = []
 · subst hne
   subst hn
   obtain ⟨A', c', rfl⟩ := hb.isSlice
   refine step_appG0 he hgd s y ho B _ xs hs hb A c hy ?_
   exact h A' c' w (by rw [List.append_nil]; exact hb) (World.grownBy.refl w _) (.inl rfl)
 · obtain ⟨i0, hi, hz0, hz1, hz2⟩ := he.parts
   subst hn
   rcases hsl with h0 | ⟨b, off, rfl, hlt, hc⟩
   · exact absurd h0 hne
   refine step_append_lies w hgd s y T ho B E i0 z S bytes he.under hi hz0 hz1 hz2 he.zs he.pos v xs.length (xs.flatMap rd) hs hb ⟨b, off, none⟩ ys.length c (ys.flatMap rd) hy (flat_len he.len ys) (fun j u hj => by rw [Go.WideShapes.add_plain]; exact SlG.flat he.len he.pos hc j u hj) (fun u hu => by obtain ⟨q, _, hq⟩ := List.mem_flatMap.1 hu; exact he.one q u hq) (List.length_pos_iff.2 hne) hmax hbytes hB _ rfl ?_
   intro g' cap w' hown' hgrow hl _
   refine h (some ⟨g', 0, none⟩) cap w' ?_ hgrow ?_
   · unfold OwnG
     rw [List.flatMap_append, List.length_append]
     exact hown'
   · rcases hl with hl | hl
     · exact .inl hl.symm
     · exact .inr (by rw [hl]; rfl)
end
section
variable {α β : Type} {rd : α → List Value} {rd' : β → List Value} {S S' : Nat} {E E' : TypeId}
end
end Go.Proofs.YtamekagminbejaaGreatDoor
namespace Go.Proofs.YtamekagminbejaaGreatDoor
open Go Go.RowKit
set_option maxRecDepth 100000
theorem eOk7 : ElOk Tryz.prog 27 32 1 24 (.slice none 0 0) rdX where
 under := Tryz.underlying27
 info := by kernel_rfl
 zs := rfl
 pos := by decide
 len := fun _ => rfl
 one := fun x u hu => by
  simp [rdX] at hu
  rcases hu with rfl; rfl
theorem step_callV {P : Program} {ops : Array Oper} {o : Oper} {a : Act} {w : World} {K : Act → World → Prop} {Q : Exit → Act → World → Prop} {F : Prop} (hgd : o.guard = none) (f : FuncId) (args : Array Value) (hrun : (execOp a.eval o).run P w = .ok (.enter f args) w)
 (R : Value → World → Prop) (hc : Calls P f args w fun e w' => (∃ v, e = .returned v ∧ R v w') ∨ (∃ ch, e = .panicked ch ∧ Q (.panic ch) a w')) (h : ∀ v w', R v w' → K (a.put o.dst v) w') : if Region.wanted o (yielded ops a.tmps) = true then Oper.wp P o a w K Q else F := by
 have hw : Region.wanted o (yielded ops a.tmps) = true := by simp [Region.wanted, hgd]
 rw [if_pos hw]
 unfold Oper.wp
 rw [hrun]
 refine hc.mono ?_
 rintro e w' (⟨v, rfl, hr⟩ | ⟨ch, rfl, hq⟩)
 · exact h v w' hr
 · exact hq
def OutX (w : World) (ob : Option Nat) (lo : Nat) (h : Sx Nd) : Prop := h.In w 5 rdN ∧ ∀ k, h.A.map (·.block) = some k → lo ≤ k ∧ k < w.heap.size ∧ some k ≠ ob
theorem Sx.In.same {α : Type} {w w' : World} {S : Nat} {rd : α → List Value} {h : Sx α} (hi : h.In w S rd) (hs : w.heap.size ≤ w'.heap.size) (hb : ∀ k, h.A.map (·.block) = some k → w'.heap[k]? = w.heap[k]?) : h.In w' S rd := by
 refine ⟨hi.len, hi.max, ?_⟩
 rcases hi.sl with h0 | ⟨b, off, hA, hlt, hc⟩
 · exact .inl h0
 · refine .inr ⟨b, off, hA, Nat.lt_of_lt_of_le hlt hs, fun i x hx j u hu => ?_⟩
   rw [← hc i x hx j u hu]
   simp only [World.cell?, hb b (by rw [hA]; rfl)]
theorem OutX.same {w w' : World} {ob ob' : Option Nat} {lo : Nat} {h : Sx Nd} (hi : OutX w ob lo h) (hs : w.heap.size ≤ w'.heap.size) (hb : ∀ k, lo ≤ k → k < w.heap.size → some k ≠ ob → w'.heap[k]? = w.heap[k]? ∧ some k ≠ ob') : OutX w' ob' lo h :=
 ⟨hi.1.same hs fun k hk => (hb k (hi.2 k hk).1 (hi.2 k hk).2.1 (hi.2 k hk).2.2).1, fun k hk => ⟨(hi.2 k hk).1, Nat.lt_of_lt_of_le (hi.2 k hk).2.1 hs, (hb k (hi.2 k hk).1 (hi.2 k hk).2.1 (hi.2 k hk).2.2).2⟩⟩
theorem OwnG.sx {α : Type} {rd : α → List Value} {S : Nat} {w : World} {B : Nat} {E : TypeId} {v : Value} {xs : List α} (hl : ∀ x, (rd x).length = S) (h : OwnG w B E S rd v xs) : ∃ A c, v = .slice A xs.length c ∧ (⟨A, xs.length, c, xs⟩ : Sx α).In w S rd ∧ ∀ k, A.map (·.block) = some k → B ≤ k ∧ k < w.heap.size := by
 rcases h.2 with ⟨rfl, hn⟩ | ⟨g, cap, cur, rfl, hB, hh, hle, hm, _⟩
 · obtain rfl : xs = [] := List.eq_nil_of_length_eq_zero hn
   exact ⟨none, 0, rfl, ⟨rfl, Nat.zero_le _, .inl rfl⟩, fun k hk => by cases hk⟩
 · obtain ⟨A, c, hv, h1, h2, h3⟩ := h.sl hl
   injection hv with e1 e2 e3
   subst e1
   refine ⟨some ⟨g, 0, none⟩, c, by rw [e3], ⟨rfl, Nat.le_trans h1 h2, h3⟩, fun k hk => ?_⟩
   simp at hk
   subst hk
   exact h.lt g rfl
def Sx.Lo {α : Type} (B : Nat) (h : Sx α) : Prop := ∀ k, h.A.map (·.block) = some k → B ≤ k
structure Tm.Lo (B : Nat) (x : Tm) : Prop where
 cols : x.cols.Lo B
 chks : x.chks.Lo B
 each : ∀ e ∈ x.chks.xs, e.Lo B
structure Vm.Lo (B : Nat) (x : Vm) : Prop where
 whr : x.whr.Lo B
 pick : x.pick.Lo B
 aggs : x.aggs.Lo B
def TableS (b : Nat) (w : World) (o : Option (Tb × List Tk)) (e : Ending) (w' : World) : Prop := match o with
 | none => e = .panicked (boom 70) ∧ Apb b w w'
 | some q => ∃ x : Tm, e = .returned x.w ∧ x.In w' ∧ x.Lo w.heap.size ∧ x.tb = q.1 ∧ Rq w' b q.2 ∧ Apb b w w'
theorem ret_tb {fn : Func} {R : Ending → World → Prop} {F : Act} {w : World} {t : Tmp} {b : Nat} {s : ByteArray} {u v : Value} (hu : u.oneCell' = true) (hv : v.oneCell' = true) (hres : fn.results = #[.cell t 29]) (ht : Reg.slot F t = .pointer (some ⟨b, 0, none⟩)) (hb : Bk w b #[.string s, u, v] 29) (hd : F.defers = [])
 (hR : R (.returned (.agg #[.string s, u, v])) w) : bodyPost Tryz.prog fn R .ret F w := by
 have h0 : w.cell? ⟨b, 0, none⟩ = some (.string s) := hb.cell 0
 have h1 : w.cell? ⟨b, 1, none⟩ = some u := hb.cell 1
 have h2 : w.cell? ⟨b, 2, none⟩ = some v := hb.cell 2
 refine bodyPost_ret (v := .agg #[.string s, u, v]) ?_ hd hR
 have ht' : F.tmps[t]?.getD undef = .pointer (some ⟨b, 0, none⟩) := by simpa [Reg.slot] using ht
 simp [results, hres, ht', go_sem, h0, h1, h2]
theorem tableP_eq (l : List Tk) : tableP l = (nameP l).bind fun a => (needP s_lp a.2).bind fun r => (sepP columnP r).bind fun c => (needP s_rp c.2).bind fun q => (checksG q).bind fun k =>
 if c.1.length ≤ 40 ∧ k.1.length ≤ 40 then some (⟨a.1, c.1, k.1⟩, k.2) else none := rfl
set_option maxHeartbeats 8000000 in
theorem table_cR (b : Nat) (l : List Tk) (w : World) (hR : Rq w b l) (hG : GL w) (hGb : GLt b) :
 Calls Tryz.prog 159 #[.pointer (some ⟨b, 0, none⟩)] w fun e w' => TableS b w (tableP l) e w' := by
 have hbs := hR.lt
 obtain ⟨S, hS⟩ : ∃ S, TableS b w (tableP l) = S := ⟨_, rfl⟩
 rw [hS]
 rw [tableP_eq] at hS
 have HS := Lib.hid hS
 have HG := Lib.hid hG
 have Hgb := Lib.hid hGb
 have hmf : ∀ (fn : Fn) (first cap : Array Value) (w : World), (Instr.makeFunc fn first cap).run Tryz.prog w = .ok (.func fn first cap) w := fun _ _ _ _ => rfl
 obtain ⟨W, hW⟩ : ∃ W, (w.alloc (.cells #[.pointer (some ⟨b, 0, none⟩)] 217)).alloc (.cells #[.string emp, .slice none 0 0, .slice none 0 0] 29) = W := ⟨_, rfl⟩
 have hz : W.heap.size = w.heap.size + 2 := by rw [← hW]; simp
 have HBx : Hid (Bk W w.heap.size #[.pointer (some ⟨b, 0, none⟩)] 217) := Lib.hid (by rw [← hW]; exact (Bk.new w _ _).after (below_one _ _) (by simp))
 have HBt : Hid (Bk W (w.heap.size + 1) #[.string emp, .slice none 0 0, .slice none 0 0] 29) := Lib.hid (by rw [← hW]; have := Bk.new (w.alloc (.cells #[.pointer (some ⟨b, 0, none⟩)] 217)) #[.string emp, .slice none 0 0, .slice none 0 0] 29; simpa using this)
 have HR0 : Hid (Rq W b l) := Lib.hid (by rw [← hW]; exact (hR.alloc _).alloc _)
 have HA0 : Hid (Apb b w W) := Lib.hid (by rw [← hW]; exact ((Apb.refl b w).alloc _).alloc _)
 have p0 : W.cell? ⟨w.heap.size, 0, none⟩ = some (.pointer (some ⟨b, 0, none⟩)) := HBx.out.cell 0
 have HW := Lib.hid hW
 clear hR hG hGb hS hW
 go_enter Tryz.func159, Tryz.ntmps159
 go_wp2_with fail
 rw [HW.out]
 refine (name_cR b l W HR0.out).mono ?_
 rintro e w1 hn
 cases hq : nameP l with
 | none =>
   rw [hq] at hn HS
   obtain ⟨rfl, hb⟩ := hn
   refine ⟨rfl, ?_⟩
   rw [← HS.out]
   exact ⟨rfl, HA0.out.trans hb⟩
 | some a =>
   rw [hq] at hn HS
   obtain ⟨rfl, hr, hb⟩ := hn
   obtain ⟨nm, l1⟩ := a
   simp only [Option.bind_some] at HS
   have hlen := hr.len
   have hzW : W.heap.size ≤ w1.heap.size := hb.size
   have Hr1 := Lib.hid hr
   have Hb1 := Lib.hid hb
   have HBx1 := Lib.hid (HBx.out.kept hb (by omega))
   have p1 : w1.cell? ⟨w.heap.size, 0, none⟩ = some (.pointer (some ⟨b, 0, none⟩)) := HBx1.out.cell 0
   have hx1 := HBx1.out.lt
   have HC1 := Lib.hid (Bk.new w1 #[.string nm, .slice none 0 0, .slice none 0 0] 29)
   obtain ⟨C, hC⟩ : ∃ C, w1.heap.size = C := ⟨_, rfl⟩
   have hzC : (w1.alloc (.cells #[.string nm, .slice none 0 0, .slice none 0 0] 29)).heap.size = C + 1 := by simp; exact hC
   have HzC := Lib.hid hzC
   have HCe := Lib.hid hC
   clear hq hr hb HBx HR0 hzC p0 HW hC
   go_wp2_with fail
   have hC := HCe.out
   rw [hC]
   rw [hC] at HC1
   refine (must1_c b (C + 1) l1 s_lp (by decide) _ HzC.out (Hr1.out.alloc _)).mono ?_
   rintro e w2 hn
   cases hq : needP s_lp l1 with
   | none =>
     rw [hq] at hn HS
     obtain ⟨rfl, hb⟩ := hn
     refine ⟨rfl, ?_⟩
     rw [← HS.out]
     exact ⟨rfl, (HA0.out.trans (Hb1.out.alloc _)).trans hb⟩
   | some l2 =>
     have hll := need_len hq
     rw [hq] at hn HS
     simp only [Option.bind_some] at HS
     obtain ⟨rfl, hr, hb⟩ := hn
     have hA1 : Apb b w1 (w1.alloc (.cells #[.string nm, .slice none 0 0, .slice none 0 0] 29)) := (Apb.refl b w1).alloc _
     have HI2 : Hid (CI b C w.heap.size nm W w2 l2 []) := Lib.hid (by
      have hCk := HC1.out.kept hb (by omega)
      refine ⟨hr, Hb1.out.trans (hA1.trans hb), ⟨_, hCk, OwnG.nil _ _ _⟩, (HBx1.out.kept hA1 (by omega)).kept hb (by omega), by simp; omega, by omega, ⟨by omega, by omega⟩, by omega⟩)
     have p2 : w2.cell? ⟨w.heap.size, 0, none⟩ = some (.pointer (some ⟨b, 0, none⟩)) := HI2.out.bx.cell 0
     have hbC : b < C := by omega
     clear hq hr hb hA1 HBx1 p1 HzC HC1 Hr1 hll hC
     go_wp2_with fail
     refine (list_cR columnP (fun l a h => Nat.le_of_lt (column_len h)) (CI b C w.heap.size nm W) (Apb b W) b 188 _ (fun _ _ _ h => h.rq) (fun _ _ _ _ _ h1 h2 h3 h4 => h1.keep h2 h3 h4) (fun u l acc h => col1_c b C w.heap.size nm W u l acc h) (fun u => by kernel_rfl) l2 [] w2 HI2.out).mono ?_
     rintro e w3 hn
     cases hq : sepP columnP l2 with
     | none =>
       rw [hq] at hn HS
       obtain ⟨rfl, hb⟩ := hn
       refine ⟨rfl, ?_⟩
       rw [← HS.out]
       exact ⟨rfl, HA0.out.trans hb⟩
     | some cq =>
       obtain ⟨cols, l3⟩ := cq
       rw [hq] at hn HS
       simp only [Option.bind_some] at HS
       obtain ⟨rfl, hi⟩ := hn
       rw [List.nil_append] at hi
       have p3 : w3.cell? ⟨w.heap.size, 0, none⟩ = some (.pointer (some ⟨b, 0, none⟩)) := hi.bx.cell 0
       have HI3 := Lib.hid hi
       clear hq hi HI2 p2 Hb1
       go_wp2_with fail
       refine (must1_c b w3.heap.size l3 s_rp (by decide) w3 rfl HI3.out.rq).mono ?_
       rintro e w4 hn
       cases hq : needP s_rp l3 with
       | none =>
         rw [hq] at hn HS
         obtain ⟨rfl, hb⟩ := hn
         refine ⟨rfl, ?_⟩
         rw [← HS.out]
         exact ⟨rfl, HA0.out.trans (HI3.out.ap.trans hb)⟩
       | some l4 =>
         have hll := need_len hq
         rw [hq] at hn HS
         simp only [Option.bind_some] at HS
         obtain ⟨rfl, hr, hb⟩ := hn
         have hi4 := HI3.out.keep hr hb (Nat.le_of_lt hll)
         obtain ⟨cv, hv4, ho4⟩ := hi4.sl
         obtain ⟨Ac, cc, hcv, hin4, hbl4⟩ := ho4.sx cOk7.len
         have HI4 := Lib.hid hi4
         have HV4 := Lib.hid hv4
         have HN4 := Lib.hid hin4
         have HL4 := Lib.hid hbl4
         have hC4 : C < w4.heap.size := hv4.lt
         have hrC : w.heap.size < C := hi4.c0
         have hWC : W.heap.size ≤ C := hi4.rb0.1
         have hln4 := hi4.rq.len
         have ho4 := trivial
         subst hcv
         clear hq hr hb HI3 p3 hll hi4 hv4 ho4 hin4 hbl4
         go_wp2_with fail
         go_loopw [18] (fun _ wr => ∃ (v : Value) (hs : List (Sx Nd)) (rest : List Tk), Hid (Rq wr b rest) ∧ Hid (Apb b W wr) ∧ Hid (Bk wr C #[.string nm, .slice Ac cols.length cc, v] 29) ∧ Hid (OwnG wr w4.heap.size 32 1 rdX v hs) ∧ Hid (∀ h ∈ hs, OutX wr v.ownBlock w4.heap.size h) ∧ Hid (∀ k, k < w4.heap.size → k ≠ b → k ≠ C → wr.heap[k]? = w4.heap[k]?) ∧ Hid (checksG l4 = (checksG rest).map fun k => (hs.map (·.xs) ++ k.1, k.2)) ∧ Hid (hs.length + rest.length ≤ 20000) ∧ Hid (w4.heap.size ≤ wr.heap.size)) (fun _ wr => rqLen wr b)
         case atStart => exact ⟨.slice none 0 0, [], l4, Lib.hid HI4.out.rq, Lib.hid HI4.out.ap, HV4, OwnG.nil _ _ _, Lib.hid (by intro h hh; cases hh), Lib.hid (fun _ _ _ _ => rfl), Lib.hid (by cases checksG l4 <;> rfl), Lib.hid (by simpa using hln4), Lib.hid (Nat.le_refl _)⟩
         case round =>
          obtain ⟨v, hs, rest, hr, ha, hv, ho, he, hk, hck, hln, hsz⟩ := hrel
          have hbx : Bk wr w.heap.size #[.pointer (some ⟨b, 0, none⟩)] 217 := (hk.out w.heap.size (by omega) (by omega) (by omega)).trans HI4.out.bx
          have p0 : wr.cell? ⟨w.heap.size, 0, none⟩ = some (.pointer (some ⟨b, 0, none⟩)) := hbx.cell 0
          have hxl := hbx.lt
          have HL := Lib.hid hr.out.left
          have HH := Lib.hid (has1_c b wr.heap.size rest w_check (by decide) wr rfl hr.out)
          clear hbx
          cases hq : (takeP w_check rest).1
          · rw [hq] at HH
            rw [take_no hq] at HH
            have hg := checksG_eq rest
            rw [hq] at hg
            simp only [Bool.false_eq_true, if_false] at hg
            have hck2 := hck.out
            rw [hg, Option.map_some, List.append_nil] at hck2
            rw [hck2] at HS
            simp only [Option.bind_some] at HS
            clear hg hck2 hck hq
            go_wp2_with fail
            refine HH.out.mono ?_
            rintro e w5 ⟨rfl, hr5, hb5⟩
            have hCr : C < wr.heap.size := Nat.lt_of_lt_of_le hC4 hsz.out
            have HV5 := Lib.hid (hv.out.kept hb5 (by omega))
            have HA5 := Lib.hid (ha.out.trans hb5)
            have HO5 := Lib.hid (ho.out.kept hb5 (by omega))
            have HE5 : Hid (∀ h ∈ hs, OutX w5 v.ownBlock w4.heap.size h) := Lib.hid fun h hh => (he.out h hh).same hb5.size fun k h1 h2 h3 => ⟨hb5.other k h2 (by omega), h3⟩
            have HK5 : Hid (∀ k, k < w4.heap.size → k ≠ b → k ≠ C → w5.heap[k]? = w4.heap[k]?) := Lib.hid fun k h1 h2 h3 => (hb5.other k (by have := hsz.out; omega) h2).trans (hk.out k h1 h2 h3)
            have Hr5 := Lib.hid hr5
            have hsz5 : w4.heap.size ≤ w5.heap.size := Nat.le_trans hsz.out hb5.size
            obtain ⟨Av, c5, hv5, hin5, hbl5⟩ := ho.out.sx eOk7.len
            subst hv5
            have hbv5 : ∀ k, Av.map (·.block) = some k → w4.heap.size ≤ k := fun k hk => (hbl5 k hk).1
            have Hbv5 := Lib.hid hbv5
            clear hbv5
            have HT5 := Lib.hid (HBt.out.kept HA5.out (by omega))
            have c0 : w5.cell? ⟨C, 0, none⟩ = some (.string nm) := HV5.out.cell 0
            have c1 : w5.cell? ⟨C, 1, none⟩ = some (.slice Ac cols.length cc) := HV5.out.cell 1
            have c2 : w5.cell? ⟨C, 2, none⟩ = some (.slice Av hs.length c5) := HV5.out.cell 2
            have hC5 := HV5.out.lt
            have t0 : w5.cell? ⟨w.heap.size + 1, 0, none⟩ = some (.string emp) := HT5.out.cell 0
            have t1 : w5.cell? ⟨w.heap.size + 1, 1, none⟩ = some (.slice none 0 0) := HT5.out.cell 1
            have t2 : w5.cell? ⟨w.heap.size + 1, 2, none⟩ = some (.slice none 0 0) := HT5.out.cell 2
            have z0 := HT5.out.thaw 0
            have z1 := HT5.out.thaw 1
            have z2 := HT5.out.thaw 2
            have hT5 := HT5.out.lt
            clear hr5 hb5 HH ho hv he hk ha hr hin5 hbl5 p0 hxl HL
            by_cases h40 : cols.length ≤ 40
            · have d1 : decide ((cols.length : Int) ≤ 40) = true := by simp; omega
              by_cases k40 : hs.length ≤ 40
              · have d2 : decide ((hs.length : Int) ≤ 40) = true := by simp; omega
                rw [if_pos ⟨h40, by simpa using k40⟩] at HS
                have hne : ¬ w.heap.size + 1 = C := by omega
                go_wp2_with fail
                refine (req_yes _).mono ?_
                rintro e w6 ⟨rfl, rfl⟩
                clear d1 d2
                go_wp2
                refine ret_tb (b := w.heap.size + 1) (s := nm) (u := .slice Ac cols.length cc) (v := .slice Av hs.length c5) rfl rfl Tryz.results159 rfl (HT5.out.put [.string nm, .slice Ac cols.length cc, .slice Av hs.length c5] rfl) rfl ?_
                rw [← HS.out]
                have hput : ∀ k, k ≠ w.heap.size + 1 → (putL w6 (w.heap.size + 1) 0 [.string nm, .slice Ac cols.length cc, .slice Av hs.length c5]).heap[k]? = w6.heap[k]? := fun k hk => putL_heap _ _ _ _ _ hk
                have hsp : w6.heap.size ≤ (putL w6 (w.heap.size + 1) 0 [.string nm, .slice Ac cols.length cc, .slice Av hs.length c5]).heap.size := by rw [putL_size]; exact Nat.le_refl _
                refine ⟨⟨nm, ⟨Ac, cols.length, cc, cols⟩, ⟨Av, hs.length, c5, hs⟩⟩, rfl, ⟨?_, ?_, ?_⟩, ⟨fun k hk => by have := (HL4.out k hk).1; omega, fun k hk => by have := Hbv5.out k hk; omega, fun h hh k hk => by have := ((HE5.out h hh).2 k hk).1; omega⟩, rfl, Hr5.out.put (c := w.heap.size + 1) (by omega) 0 [.string nm, .slice Ac cols.length cc, .slice Av hs.length c5], (HA0.out.trans HA5.out).put (c := w.heap.size + 1) (by omega) 0 [.string nm, .slice Ac cols.length cc, .slice Av hs.length c5]⟩
                · have h1 := HN4.out.same hsz5 fun k hk => HK5.out k (HL4.out k hk).2 (by have := (HL4.out k hk).1; omega) (by have := (HL4.out k hk).1; omega)
                  exact h1.same hsp fun k hk => hput k (by have := (HL4.out k hk).1; omega)
                · obtain ⟨Av', c5', e1, hin, hbl⟩ := HO5.out.sx eOk7.len
                  injection e1 with e1 e2 e3
                  subst e1 e3
                  exact hin.same hsp fun k hk => hput k (by have := (hbl k hk).1; omega)
                · intro h hh
                  exact (HE5.out h hh).1.same hsp fun k hk => hput k (by have := ((HE5.out h hh).2 k hk).1; omega)
              · have d2 : decide ((hs.length : Int) ≤ 40) = false := by simp; omega
                rw [if_neg (fun h => k40 (by simpa using h.2))] at HS
                go_wp2_with fail
                refine (req_no _).mono ?_
                rintro e w6 ⟨rfl, rfl⟩
                refine ⟨rfl, ?_⟩
                rw [← HS.out]
                exact ⟨rfl, HA0.out.trans HA5.out⟩
            · have d1 : decide ((cols.length : Int) ≤ 40) = false := by simp; omega
              rw [if_neg (fun h => h40 h.1)] at HS
              go_wp2_with fail
              refine (req_no _).mono ?_
              rintro e w6 ⟨rfl, rfl⟩
              refine ⟨rfl, ?_⟩
              rw [← HS.out]
              exact ⟨rfl, HA0.out.trans HA5.out⟩
          · rw [hq] at HH
            have hg := checksG_eq rest
            rw [hq] at hg
            simp only [if_true] at hg
            obtain ⟨l5, hl5⟩ : ∃ l5, (takeP w_check rest).2 = l5 := ⟨_, rfl⟩
            have hlt5 : l5.length < rest.length := by rw [← hl5]; exact (take_len w_check rest).2 hq
            rw [hl5] at HH hg
            have Hg := Lib.hid hg
            clear hg hq hl5
            go_wp2_with fail
            refine HH.out.mono ?_
            rintro e w5 ⟨rfl, hr5, hb5⟩
            have hCr : C < wr.heap.size := Nat.lt_of_lt_of_le hC4 hsz.out
            have hvl : ∀ k, v.ownBlock = some k → w4.heap.size ≤ k ∧ k < wr.heap.size := fun k hk => ho.out.lt k hk
            have HV5 := Lib.hid (hv.out.kept hb5 (by omega))
            have HA5 := Lib.hid (ha.out.trans hb5)
            have HO5 := Lib.hid (ho.out.kept hb5 (by omega))
            have HE5 : Hid (∀ h ∈ hs, OutX w5 v.ownBlock w4.heap.size h) := Lib.hid fun h hh => (he.out h hh).same hb5.size fun k h1 h2 h3 => ⟨hb5.other k h2 (by omega), h3⟩
            have HK5 : Hid (∀ k, k < w4.heap.size → k ≠ b → k ≠ C → w5.heap[k]? = w4.heap[k]?) := Lib.hid fun k h1 h2 h3 => (hb5.other k (by have := hsz.out; omega) h2).trans (hk.out k h1 h2 h3)
            have Hr5 := Lib.hid hr5
            have hsz5 : w4.heap.size ≤ w5.heap.size := Nat.le_trans hsz.out hb5.size
            have Hvl : Hid (∀ k, v.ownBlock = some k → w4.heap.size ≤ k ∧ k < w5.heap.size) := Lib.hid fun k hk => ⟨(hvl k hk).1, Nat.lt_of_lt_of_le (hvl k hk).2 hb5.size⟩
            have hln5 := hln.out
            have c2 : w5.cell? ⟨C, 2, none⟩ = some v := HV5.out.cell 2
            have f2 := HV5.out.thaw 2
            have hC5 := HV5.out.lt
            have p5 : w5.cell? ⟨w.heap.size, 0, none⟩ = some (.pointer (some ⟨b, 0, none⟩)) := by
             have : Bk w5 w.heap.size #[.pointer (some ⟨b, 0, none⟩)] 217 := (HK5.out w.heap.size (by omega) (by omega) (by omega)).trans HI4.out.bx
             exact this.cell 0
            have hx5 : w.heap.size < w5.heap.size := by omega
            have HX := Lib.hid (expr_cR b l5 w5.drew Hr5.out.drew (HG.out.below (((HA0.out.trans HA5.out).drew).below hbs) Hgb.out) Hgb.out)
            clear hr5 hb5 HH ho hv he hk ha hr p0 hxl hvl hln
            go_wp2_with fail
            go_region_law (first
             | (refine step_callV rfl 191 #[.pointer (some ⟨b, 0, none⟩)] (by kernel_rfl) (fun v' w' => ∃ es r, exprP l5 = some (es, r) ∧ OwnG w' w5.heap.size 83 5 rdN v' es ∧ Rq w' b r ∧ Apb b w5 w') (HX.out.mono ?_) ?_
                · intro e w6 hn
                  cases hq : exprP l5 with
                  | none =>
                    rw [hq] at hn
                    refine .inr ⟨_, hn.1, rfl, ?_⟩
                    have h1 := hck.out
                    rw [Hg.out, hq, Option.bind_none, Option.map_none] at h1
                    have h2 := HS.out
                    rw [h1, Option.bind_none] at h2
                    rw [← h2]
                    exact ⟨rfl, (HA0.out.trans HA5.out).drew.trans hn.2⟩
                  | some q =>
                    obtain ⟨es, r⟩ := q
                    rw [hq] at hn
                    obtain ⟨v', h1, h2, h3, h4⟩ := hn
                    exact .inl ⟨v', h1, es, r, rfl, h2, h3, (Apb.refl b w5).drew.trans h4⟩
                rintro ve wx ⟨es, r, hq1, hoe, hr1, hb1⟩
                obtain ⟨Ae, ce, hve, hine, hble⟩ := hoe.sx nOk.len
                subst hve
                have Hq1 := Lib.hid hq1
                have Hr1 := Lib.hid hr1
                have Hb1 := Lib.hid hb1
                have Hine := Lib.hid hine
                have Hble := Lib.hid hble
                have HV1 := Lib.hid (HV5.out.kept hb1 (by omega))
                have HO1 := Lib.hid (HO5.out.kept hb1 (by omega))
                have c2' : wx.cell? ⟨C, 2, none⟩ = some v := HV1.out.cell 2
                have f2' := HV1.out.thaw 2
                have hlC1 := HV1.out.lt
                have hle := expr_len hq1
                have hsx := hb1.size
                clear hq1 hr1 hb1 hoe hine hble)
             | (refine step_appL eOk7 rfl (.tmp 20) (.tmp 23) rfl w4.heap.size v hs [⟨Ae, es.length, ce, es⟩] rfl (HO1.out.alloc _) (some ⟨wx.heap.size, 0, none⟩) 1 1 rfl rfl (SlG.new eOk7.len [⟨Ae, es.length, ce, es⟩] rfl) (by simp [maxLen]; omega) (by simp; omega) (by simp; omega) ?_
                intro A2 c2x w2x hv2 hg2 hloc
                have Hv2 := Lib.hid hv2
                have Hg2 := Lib.hid hg2
                have Hloc := Lib.hid hloc
                have hbk2 : ∀ k, k < wx.heap.size → some k ≠ v.ownBlock → w2x.heap[k]? = wx.heap[k]? := fun k hk hne => (hg2.block k (by simp; omega) hne).trans (Below.heap_alloc _ _ k (by omega))
                have Hbk2 := Lib.hid hbk2
                have hs2 : wx.heap.size ≤ w2x.heap.size := by have := hg2.size; simp at this; omega
                have HV2 : Hid (Bk w2x C #[.string nm, .slice Ac cols.length cc, v] 29) := Lib.hid ((hbk2 C hlC1 (fun e => by have := (Hvl.out _ e.symm).1; omega)).trans HV1.out)
                have c2'' : w2x.cell? ⟨C, 2, none⟩ = some v := HV2.out.cell 2
                have f2'' := HV2.out.thaw 2
                have hlC2 := HV2.out.lt
                clear hv2 hg2 hloc hbk2))
            all_goals
             have hxl5 : w5.heap.size ≤ wx.heap.size := hsx
             have hset : ∀ k, k ≠ C → (w2x.setCell ⟨C, 2, none⟩ (.slice A2 (hs.length + 1) c2x)).heap[k]? = w2x.heap[k]? := fun k hk => Below.heap_setCell _ _ _ _ hk
             have hown : ∀ k, (Value.slice A2 (hs.length + 1) c2x).ownBlock = some k → w4.heap.size ≤ k ∧ k < w2x.heap.size := fun k hk => Hv2.out.lt k hk
             have hsz2 : (w2x.setCell ⟨C, 2, none⟩ (.slice A2 (hs.length + 1) c2x)).heap.size = w2x.heap.size := by simp [World.setCell]
             have hvb : ∀ k, some k = v.ownBlock → w4.heap.size ≤ k ∧ k < w5.heap.size := fun k hk => Hvl.out k hk.symm
             have HR9 : Hid (Rq (w2x.setCell ⟨C, 2, none⟩ (.slice A2 (hs.length + 1) c2x)) b r) := Lib.hid ((Hr1.out.same fun k hk => Hbk2.out k (by omega) (fun e => by have := hvb _ e; omega)).own (by omega) 2 _)
             have HA9 : Hid (Apb b W (w2x.setCell ⟨C, 2, none⟩ (.slice A2 (hs.length + 1) c2x))) := Lib.hid ((((HA5.out.trans Hb1.out).alloc _).grown Hg2.out (fun k hk => by have := (Hvl.out k hk).1; omega)).own (by omega) 2 _)
             have HV9 : Hid (Bk (w2x.setCell ⟨C, 2, none⟩ (.slice A2 (hs.length + 1) c2x)) C #[.string nm, .slice Ac cols.length cc, .slice A2 (hs.length + 1) c2x] 29) := Lib.hid (HV2.out.set 2 _)
             have HO9 : Hid (OwnG (w2x.setCell ⟨C, 2, none⟩ (.slice A2 (hs.length + 1) c2x)) w4.heap.size 32 1 rdX (.slice A2 (hs.length + 1) c2x) (hs ++ [⟨Ae, es.length, ce, es⟩])) := Lib.hid (Hv2.out.same fun k hk => hset k (by have := (Hv2.out.lt k hk).1; omega))
             have HE9 : Hid (∀ h ∈ hs ++ [(⟨Ae, es.length, ce, es⟩ : Sx Nd)], OutX (w2x.setCell ⟨C, 2, none⟩ (.slice A2 (hs.length + 1) c2x)) (Value.slice A2 (hs.length + 1) c2x).ownBlock w4.heap.size h) := Lib.hid fun h hh => by
              have hnew : ∀ k, k < wx.heap.size → some k ≠ v.ownBlock → some k ≠ (Value.slice A2 (hs.length + 1) c2x).ownBlock := fun k hk hne e => by
               rcases Hloc.out with h1 | h1
               · exact hne (e.trans h1)
               · have h2 := e.trans h1
                 simp at h2
                 omega
              rcases List.mem_append.1 hh with hh | hh
              · refine (HE5.out h hh).same (by rw [hsz2]; omega) fun k h1 h2 h3 => ⟨?_, hnew k (by omega) h3⟩
                rw [hset k (by omega), Hbk2.out k (by omega) h3]
                exact Hb1.out.other k h2 (by omega)
              · rw [List.mem_singleton] at hh
                subst hh
                refine ⟨Hine.out.same (by rw [hsz2]; exact hs2) fun k hk => ?_, fun k hk => ?_⟩
                · have h1 := Hble.out k hk
                  rw [hset k (by omega)]
                  exact Hbk2.out k h1.2 (fun e => by have := (hvb _ e).2; omega)
                · have h1 := Hble.out k hk
                  exact ⟨by omega, by rw [hsz2]; omega, hnew k h1.2 (fun e => by have := (hvb _ e).2; omega)⟩
             have HK9 : Hid (∀ k, k < w4.heap.size → k ≠ b → k ≠ C → (w2x.setCell ⟨C, 2, none⟩ (.slice A2 (hs.length + 1) c2x)).heap[k]? = w4.heap[k]?) := Lib.hid fun k h1 h2 h3 => by
              rw [hset k h3, Hbk2.out k (by omega) (fun e => by have := (hvb _ e).1; omega)]
              exact (Hb1.out.other k (by omega) h2).trans (HK5.out k h1 h2 h3)
             have HC9 : Hid (checksG l4 = (checksG r).map fun k => ((hs ++ [(⟨Ae, es.length, ce, es⟩ : Sx Nd)]).map (·.xs) ++ k.1, k.2)) := Lib.hid (by
              rw [hck.out, Hg.out, Hq1.out, Option.bind_some]
              cases checksG r with
              | none => rfl
              | some k => simp)
             have HL9 : Hid ((hs ++ [(⟨Ae, es.length, ce, es⟩ : Sx Nd)]).length + r.length ≤ 20000) := Lib.hid (by simp; omega)
             have HZ9 : Hid (w4.heap.size ≤ (w2x.setCell ⟨C, 2, none⟩ (.slice A2 (hs.length + 1) c2x)).heap.size) := Lib.hid (by rw [hsz2]; omega)
             have HM9 : Hid (rqLen (w2x.setCell ⟨C, 2, none⟩ (.slice A2 (hs.length + 1) c2x)) b < rqLen wr b) := Lib.hid (by rw [HR9.out.left, HL.out]; omega)
             clear hxl5 hset hown hsz2 hvb HE5 HO5 HV5 HA5 HK5 Hr5 Hvl HX Hq1 Hr1 Hb1 Hine Hble HV1 HO1 Hv2 Hg2 Hloc Hbk2 HV2 hck Hg c2 f2 p5 c2' f2' c2'' f2''
             go_wp2
             go_roundw
             case rel => exact ⟨_, _, r, HR9, HA9, HV9, HO9, HE9, HK9, HC9, HL9, HZ9⟩
             case measure => exact HM9.out
end Go.Proofs.YtamekagminbejaaGreatDoor
