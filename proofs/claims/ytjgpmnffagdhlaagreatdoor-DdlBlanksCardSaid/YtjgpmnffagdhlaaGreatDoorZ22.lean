/-
  A blank more changes nothing: of all texts without a quote.
-/
import Derived.Test.YtjgpmnffagdhlaaGreatDoorZL
set_option linter.unusedVariables false
set_option linter.unusedSimpArgs false
namespace Go.Proofs.YtjgpmnffagdhlaaGreatDoor
open Go Go.RowKit
set_option maxRecDepth 100000

theorem cat7 (w : World) (x y : List UInt8) (h : x.length + y.length ≤ 100000) : (Op.stringOp .add (ba x) (ba y)).run Tryz.prog w = .ok (.string (ba (x ++ y))) w := by
  have h2 := run_string_add_sum (P := Tryz.prog) w ⟨x.toArray⟩ ⟨y.toArray⟩ (by show x.toArray.size + y.toArray.size ≤ _; simp; omega)
  refine h2.trans ?_
  congr 2
theorem ext7 (l : List UInt8) (a b : Nat) : (ba l).extract a b = ba ((l.take b).drop a) := by
  apply toList_inj
  rw [Lib.extract_eq, ByteArray.toList_eq, ByteArray.toList_eq]
  show List.take (b - a) (List.drop a l) = List.drop a (List.take b l)
  rw [List.drop_take]
theorem read_same {l t : List UInt8} (hl : l.length ≤ 2000) (ht : t.length ≤ 20000) (h : lexL t = lexL l) : errO t = errO l ∧ defO t = defO l := by
  have h1 : lexO t = lexO l := by unfold lexO; rw [if_pos ht, if_pos (by omega), h]
  unfold errO defO
  rw [h1]
  exact ⟨rfl, rfl⟩
/-- What the second text is: read as the first one. -/
def Like (l t : List UInt8) : Prop := errO t = errO l ∧ defO t = defO l ∧ t.length ≤ 20000
theorem like_around {l : List UInt8} (hl : l.length ≤ 2000) (hq : (39 : UInt8) ∉ l) : Like l ([32] ++ l ++ [32]) := by
  have hn : ([32] ++ l ++ [32]).length ≤ 20000 := by simp only [List.length_append, List.length_cons, List.length_nil]; omega
  obtain ⟨h1, h2⟩ := read_same hl hn (lex_around l hq)
  exact ⟨h1, h2, hn⟩
theorem like_more {l : List UInt8} {k : Nat} (hl : l.length ≤ 2000) (hq : (39 : UInt8) ∉ l) (hk : l[k]? = some 32) : Like l (l.take k ++ [32, 32] ++ l.drop k) := by
  have hd : l.drop k = 32 :: l.drop (k + 1) := by
    have h1 := List.drop_eq_getElem_cons (List.getElem?_eq_some_iff.1 hk).1
    rw [(List.getElem?_eq_some_iff.1 hk).2] at h1
    exact h1
  have e : l.take k ++ 32 :: l.drop (k + 1) = l := by rw [← hd, List.take_append_drop]
  have hn : (l.take k ++ [32, 32] ++ l.drop k).length ≤ 20000 := by
    simp only [List.length_append, List.length_cons, List.length_nil, List.length_take, List.length_drop]; omega
  obtain ⟨h1, h2⟩ := read_same hl hn (by
    rw [hd]
    have := lex_more (l.take k) (l.drop (k + 1)) (fun h => hq (List.mem_of_mem_take h))
    rw [this, e])
  exact ⟨h1, h2, hn⟩
set_option maxHeartbeats 8000000 in
theorem blanks7_w (l : List UInt8) (a : Int) (w : World) (hl : l.length ≤ maxLen) (hG : Gw w.heap.size w) :
    Calls Tryz.prog 5 #[.string (ba l), .int .i64 a] w fun e w' => e = .returned (.bool true) ∧ Below w.heap.size w w' := by
  unfold maxLen at hl
  have HG := Lib.hid hG
  have HB0 := Lib.hid (Below.refl w.heap.size w)
  clear hG
  by_cases h1 : l.length ≤ 2000
  case neg =>
    go_enter Tryz.func5, Tryz.ntmps5
    go_wp2_with fail
    refine (fixed7_c w ((HG.out.below HB0.out).up HB0.out.size)).mono ?_
    rintro e w1 ⟨rfl, hb⟩
    have HB1 := Lib.hid (below_via HB0.out hb)
    clear hb
    have h3 : 2000 < l.length := by omega
    go_wp2_with fail
    refine (fixed7_c w1 ((HG.out.below HB1.out).up HB1.out.size)).mono ?_
    rintro e w2 ⟨rfl, hb⟩
    have HB2 := Lib.hid (below_via HB1.out hb)
    clear hb
    go_wp2
    go_ret
    exact ⟨rfl, HB2.out⟩
  have Hl := Lib.hid h1
  go_enter Tryz.func5, Tryz.ntmps5
  go_wp2_with fail
  refine (fixed7_c w ((HG.out.below HB0.out).up HB0.out.size)).mono ?_
  rintro e w1 ⟨rfl, hb⟩
  have HB1 := Lib.hid (below_via HB0.out hb)
  clear hb
  go_wp2_with fail
  go_loopw [5] (fun i wr => ∃ k : Nat, k ≤ l.length ∧ i = .int .i64 k ∧ w1 = wr ∧ Hid ((39 : UInt8) ∉ l.take k)) (fun i _ => l.length - (intOf i).toNat)
  case atStart => exact ⟨0, Nat.zero_le _, rfl, rfl, Lib.hid (by simp)⟩
  case round =>
    obtain ⟨k, hk, rfl, rfl, hA⟩ := hrel
    by_cases hlt2 : k < l.length
    · obtain ⟨x, hx⟩ : ∃ x, l[k]? = some x := ⟨_, List.getElem?_eq_getElem (by omega)⟩
      have Hx := Lib.hid hx
      have Hg := Lib.hid (ba_get hx (by show k < l.toArray.size; simpa using hlt2))
      clear hx
      by_cases hxb : x = 39
      · subst hxb
        go_wp2_with (rw [Hg.out])
        go_ret
        exact ⟨rfl, HB1.out⟩
      · have hbb : ((x.toNat : Int) == 39) = false := by
          simp only [beq_eq_false_iff_ne, ne_eq]
          intro e
          exact hxb (UInt8.toNat_inj.1 (by have : (39 : UInt8).toNat = 39 := rfl; omega))
        have hA2 : (39 : UInt8) ∉ l.take (k + 1) := by
          rw [List.take_add_one, Hx.out]
          intro h
          simp at h
          rcases h with h | h
          · exact hA.out h
          · exact hxb h.symm
        have HA2 := Lib.hid hA2
        clear hA2 hxb
        go_wp2_with (rw [Hg.out])
        go_roundw
        case rel => exact ⟨k + 1, by omega, by go_num, trivial, HA2⟩
        case measure => simp [intOf]; omega
    · have HQ : Hid ((39 : UInt8) ∉ l) := Lib.hid (by have := hA.out; rwa [List.take_of_length_le (by omega)] at this)
      have hk2 : (k : Int) = l.length := by omega
      have ec1 : ∀ w, (Op.stringOp .add ⟨#[32]⟩ (ba l)).run Tryz.prog w = .ok (.string (ba ([32] ++ l))) w := fun w => cat7 w [32] l (by simp only [List.length_cons, List.length_nil]; omega)
      have ec2 : ∀ w, (Op.stringOp .add (ba ([32] ++ l)) ⟨#[32]⟩).run Tryz.prog w = .ok (.string (ba ([32] ++ l ++ [32]))) w := fun w => cat7 w ([32] ++ l) [32] (by simp only [List.length_append, List.length_cons, List.length_nil]; omega)
      have HT0 := Lib.hid (like_around Hl.out HQ.out)
      generalize [32] ++ l ++ [32] = T at ec2 HT0
      generalize [32] ++ l = X1 at ec1 ec2
      clear hA
      by_cases ha0 : 0 ≤ a
      case neg =>
        have ha1 : decide (a ≥ 0) = false := decide_eq_false ha0
        have HT := HT0
        go_wp2_with fail
        clear ec1 ec2 ha1 ha0 hlt2 hk hk2
        go_wp2_with fail
        refine (prs l w1 (by have := Hl.out; unfold maxLen; omega) (HG.out.below HB1.out).gl).mono ?_
        rintro e w11 ⟨x, rfl, hi, hd, hb⟩
        obtain ⟨w12, hw12⟩ : ∃ w12, w11.alloc (.cells #[.int .i64 x.k, .string x.t.name, .slice x.t.cols.A x.t.cols.n x.t.cols.c, .slice x.t.chks.A x.t.chks.n x.t.chks.c, .string x.v.name, .string x.v.frm, .string x.v.wth, .int .i64 x.v.on0, .int .i64 x.v.on1, .slice x.v.whr.A x.v.whr.n x.v.whr.c, .slice x.v.pick.A x.v.pick.n x.v.pick.c, .bool x.v.grp, .slice x.v.aggs.A x.v.aggs.n x.v.aggs.c] 34) = w12 := ⟨_, rfl⟩
        have hb2 : Below w1.heap.size w1 w12 := by rw [← hw12]; exact below_al hb _
        have HIx12 : Hid (x.In w12) := Lib.hid (by rw [← hw12]; exact hi.after (below_one _ _))
        have HKx12 : Hid (BkD w12 w11.heap.size x) := Lib.hid (by rw [← hw12]; exact Bk.new _ _ _)
        have HDx : Hid (x.df = defO l) := Lib.hid hd
        have HB12 := Lib.hid (below_via HB1.out hb2)
        clear hi hd hb hb2
        go_wp2_with fail
        refine (prs T w12 (by have := HT.out.2.2; unfold maxLen; omega) (HG.out.below HB12.out).gl).mono ?_
        rintro e w13 ⟨y, rfl, hi, hd, hb⟩
        obtain ⟨w14, hw14⟩ : ∃ w14, w13.alloc (.cells #[.int .i64 y.k, .string y.t.name, .slice y.t.cols.A y.t.cols.n y.t.cols.c, .slice y.t.chks.A y.t.chks.n y.t.chks.c, .string y.v.name, .string y.v.frm, .string y.v.wth, .int .i64 y.v.on0, .int .i64 y.v.on1, .slice y.v.whr.A y.v.whr.n y.v.whr.c, .slice y.v.pick.A y.v.pick.n y.v.pick.c, .bool y.v.grp, .slice y.v.aggs.A y.v.aggs.n y.v.aggs.c] 34) = w14 := ⟨_, rfl⟩
        have hb2 : Below w12.heap.size w12 w14 := by rw [← hw14]; exact below_al hb _
        have HIy14 : Hid (y.In w14) := Lib.hid (by rw [← hw14]; exact hi.after (below_one _ _))
        have HKy14 : Hid (BkD w14 w13.heap.size y) := Lib.hid (by rw [← hw14]; exact Bk.new _ _ _)
        have HDy : Hid (y.df = defO T) := Lib.hid hd
        have HB14 := Lib.hid (below_via HB12.out hb2)
        have HIx14 : Hid (x.In w14) := Lib.hid (HIx12.out.after hb2)
        have HKx14 : Hid (BkD w14 w11.heap.size x) := Lib.hid (Bk.after HKx12.out hb2 HKx12.out.lt)
        clear hi hd hb hb2
        rw [HT.out.1]
        obtain ⟨xc0, xc1, xc2, xc3, xc4, xc5, xc6, xc7, xc8, xc9, xc10, xc11, xc12, xcl⟩ := HKx14.out.all
        obtain ⟨yc0, yc1, yc2, yc3, yc4, yc5, yc6, yc7, yc8, yc9, yc10, yc11, yc12, ycl⟩ := HKy14.out.all
        go_wp2_with fail
        refine (sameD_c x y w14 HIx14.out HIy14.out).mono ?_
        rintro e w15 ⟨rfl, hb⟩
        rw [decide_eq_true (by rw [HDx.out, HDy.out, HT.out.2.1])]
        have HB15 := Lib.hid (below_via HB14.out hb)
        have HIx15 : Hid (x.In w15) := Lib.hid (HIx14.out.after hb)
        have HKx15 : Hid (BkD w15 w11.heap.size x) := Lib.hid (Bk.after HKx14.out hb HKx14.out.lt)
        have HIy15 : Hid (y.In w15) := Lib.hid (HIy14.out.after hb)
        have HKy15 : Hid (BkD w15 w13.heap.size y) := Lib.hid (Bk.after HKy14.out hb HKy14.out.lt)
        clear hb
        clear xc0 xc1 xc2 xc3 xc4 xc5 xc6 xc7 xc8 xc9 xc10 xc11 xc12 xcl
        clear yc0 yc1 yc2 yc3 yc4 yc5 yc6 yc7 yc8 yc9 yc10 yc11 yc12 ycl
        go_wp2
        go_ret
        exact ⟨rfl, HB15.out⟩

      by_cases hal : a < l.length
      case neg =>
        have ha1 : decide (a < (l.length : Int)) = false := decide_eq_false hal
        have HT := HT0
        go_wp2_with fail
        clear ec1 ec2 ha1 ha0 hal hlt2 hk hk2
        go_wp2_with fail
        refine (prs l w1 (by have := Hl.out; unfold maxLen; omega) (HG.out.below HB1.out).gl).mono ?_
        rintro e w11 ⟨x, rfl, hi, hd, hb⟩
        obtain ⟨w12, hw12⟩ : ∃ w12, w11.alloc (.cells #[.int .i64 x.k, .string x.t.name, .slice x.t.cols.A x.t.cols.n x.t.cols.c, .slice x.t.chks.A x.t.chks.n x.t.chks.c, .string x.v.name, .string x.v.frm, .string x.v.wth, .int .i64 x.v.on0, .int .i64 x.v.on1, .slice x.v.whr.A x.v.whr.n x.v.whr.c, .slice x.v.pick.A x.v.pick.n x.v.pick.c, .bool x.v.grp, .slice x.v.aggs.A x.v.aggs.n x.v.aggs.c] 34) = w12 := ⟨_, rfl⟩
        have hb2 : Below w1.heap.size w1 w12 := by rw [← hw12]; exact below_al hb _
        have HIx12 : Hid (x.In w12) := Lib.hid (by rw [← hw12]; exact hi.after (below_one _ _))
        have HKx12 : Hid (BkD w12 w11.heap.size x) := Lib.hid (by rw [← hw12]; exact Bk.new _ _ _)
        have HDx : Hid (x.df = defO l) := Lib.hid hd
        have HB12 := Lib.hid (below_via HB1.out hb2)
        clear hi hd hb hb2
        go_wp2_with fail
        refine (prs T w12 (by have := HT.out.2.2; unfold maxLen; omega) (HG.out.below HB12.out).gl).mono ?_
        rintro e w13 ⟨y, rfl, hi, hd, hb⟩
        obtain ⟨w14, hw14⟩ : ∃ w14, w13.alloc (.cells #[.int .i64 y.k, .string y.t.name, .slice y.t.cols.A y.t.cols.n y.t.cols.c, .slice y.t.chks.A y.t.chks.n y.t.chks.c, .string y.v.name, .string y.v.frm, .string y.v.wth, .int .i64 y.v.on0, .int .i64 y.v.on1, .slice y.v.whr.A y.v.whr.n y.v.whr.c, .slice y.v.pick.A y.v.pick.n y.v.pick.c, .bool y.v.grp, .slice y.v.aggs.A y.v.aggs.n y.v.aggs.c] 34) = w14 := ⟨_, rfl⟩
        have hb2 : Below w12.heap.size w12 w14 := by rw [← hw14]; exact below_al hb _
        have HIy14 : Hid (y.In w14) := Lib.hid (by rw [← hw14]; exact hi.after (below_one _ _))
        have HKy14 : Hid (BkD w14 w13.heap.size y) := Lib.hid (by rw [← hw14]; exact Bk.new _ _ _)
        have HDy : Hid (y.df = defO T) := Lib.hid hd
        have HB14 := Lib.hid (below_via HB12.out hb2)
        have HIx14 : Hid (x.In w14) := Lib.hid (HIx12.out.after hb2)
        have HKx14 : Hid (BkD w14 w11.heap.size x) := Lib.hid (Bk.after HKx12.out hb2 HKx12.out.lt)
        clear hi hd hb hb2
        rw [HT.out.1]
        obtain ⟨xc0, xc1, xc2, xc3, xc4, xc5, xc6, xc7, xc8, xc9, xc10, xc11, xc12, xcl⟩ := HKx14.out.all
        obtain ⟨yc0, yc1, yc2, yc3, yc4, yc5, yc6, yc7, yc8, yc9, yc10, yc11, yc12, ycl⟩ := HKy14.out.all
        go_wp2_with fail
        refine (sameD_c x y w14 HIx14.out HIy14.out).mono ?_
        rintro e w15 ⟨rfl, hb⟩
        rw [decide_eq_true (by rw [HDx.out, HDy.out, HT.out.2.1])]
        have HB15 := Lib.hid (below_via HB14.out hb)
        have HIx15 : Hid (x.In w15) := Lib.hid (HIx14.out.after hb)
        have HKx15 : Hid (BkD w15 w11.heap.size x) := Lib.hid (Bk.after HKx14.out hb HKx14.out.lt)
        have HIy15 : Hid (y.In w15) := Lib.hid (HIy14.out.after hb)
        have HKy15 : Hid (BkD w15 w13.heap.size y) := Lib.hid (Bk.after HKy14.out hb HKy14.out.lt)
        clear hb
        clear xc0 xc1 xc2 xc3 xc4 xc5 xc6 xc7 xc8 xc9 xc10 xc11 xc12 xcl
        clear yc0 yc1 yc2 yc3 yc4 yc5 yc6 yc7 yc8 yc9 yc10 yc11 yc12 ycl
        go_wp2
        go_ret
        exact ⟨rfl, HB15.out⟩

      obtain ⟨m, rfl⟩ : ∃ m : Nat, a = m := ⟨a.toNat, by omega⟩
      have hml : m < l.length := by omega
      obtain ⟨x, hx⟩ : ∃ x, l[m]? = some x := ⟨_, List.getElem?_eq_getElem (by omega)⟩
      have Hx := Lib.hid hx
      have Hg := Lib.hid (ba_get hx (by show m < l.toArray.size; simpa using hml))
      clear hx
      by_cases hxb : x = 32
      case neg =>
        have hbb : ((x.toNat : Int) == 32) = false := by
          simp only [beq_eq_false_iff_ne, ne_eq]
          intro e
          exact hxb (UInt8.toNat_inj.1 (by have : (32 : UInt8).toNat = 32 := rfl; omega))
        have HT := HT0
        clear hxb
        go_wp2_with (rw [Hg.out])
        clear ec1 ec2 hbb ha0 hal hlt2 hk hk2 hml Hg Hx
        go_wp2_with fail
        refine (prs l w1 (by have := Hl.out; unfold maxLen; omega) (HG.out.below HB1.out).gl).mono ?_
        rintro e w11 ⟨x, rfl, hi, hd, hb⟩
        obtain ⟨w12, hw12⟩ : ∃ w12, w11.alloc (.cells #[.int .i64 x.k, .string x.t.name, .slice x.t.cols.A x.t.cols.n x.t.cols.c, .slice x.t.chks.A x.t.chks.n x.t.chks.c, .string x.v.name, .string x.v.frm, .string x.v.wth, .int .i64 x.v.on0, .int .i64 x.v.on1, .slice x.v.whr.A x.v.whr.n x.v.whr.c, .slice x.v.pick.A x.v.pick.n x.v.pick.c, .bool x.v.grp, .slice x.v.aggs.A x.v.aggs.n x.v.aggs.c] 34) = w12 := ⟨_, rfl⟩
        have hb2 : Below w1.heap.size w1 w12 := by rw [← hw12]; exact below_al hb _
        have HIx12 : Hid (x.In w12) := Lib.hid (by rw [← hw12]; exact hi.after (below_one _ _))
        have HKx12 : Hid (BkD w12 w11.heap.size x) := Lib.hid (by rw [← hw12]; exact Bk.new _ _ _)
        have HDx : Hid (x.df = defO l) := Lib.hid hd
        have HB12 := Lib.hid (below_via HB1.out hb2)
        clear hi hd hb hb2
        go_wp2_with fail
        refine (prs T w12 (by have := HT.out.2.2; unfold maxLen; omega) (HG.out.below HB12.out).gl).mono ?_
        rintro e w13 ⟨y, rfl, hi, hd, hb⟩
        obtain ⟨w14, hw14⟩ : ∃ w14, w13.alloc (.cells #[.int .i64 y.k, .string y.t.name, .slice y.t.cols.A y.t.cols.n y.t.cols.c, .slice y.t.chks.A y.t.chks.n y.t.chks.c, .string y.v.name, .string y.v.frm, .string y.v.wth, .int .i64 y.v.on0, .int .i64 y.v.on1, .slice y.v.whr.A y.v.whr.n y.v.whr.c, .slice y.v.pick.A y.v.pick.n y.v.pick.c, .bool y.v.grp, .slice y.v.aggs.A y.v.aggs.n y.v.aggs.c] 34) = w14 := ⟨_, rfl⟩
        have hb2 : Below w12.heap.size w12 w14 := by rw [← hw14]; exact below_al hb _
        have HIy14 : Hid (y.In w14) := Lib.hid (by rw [← hw14]; exact hi.after (below_one _ _))
        have HKy14 : Hid (BkD w14 w13.heap.size y) := Lib.hid (by rw [← hw14]; exact Bk.new _ _ _)
        have HDy : Hid (y.df = defO T) := Lib.hid hd
        have HB14 := Lib.hid (below_via HB12.out hb2)
        have HIx14 : Hid (x.In w14) := Lib.hid (HIx12.out.after hb2)
        have HKx14 : Hid (BkD w14 w11.heap.size x) := Lib.hid (Bk.after HKx12.out hb2 HKx12.out.lt)
        clear hi hd hb hb2
        rw [HT.out.1]
        obtain ⟨xc0, xc1, xc2, xc3, xc4, xc5, xc6, xc7, xc8, xc9, xc10, xc11, xc12, xcl⟩ := HKx14.out.all
        obtain ⟨yc0, yc1, yc2, yc3, yc4, yc5, yc6, yc7, yc8, yc9, yc10, yc11, yc12, ycl⟩ := HKy14.out.all
        go_wp2_with fail
        refine (sameD_c x y w14 HIx14.out HIy14.out).mono ?_
        rintro e w15 ⟨rfl, hb⟩
        rw [decide_eq_true (by rw [HDx.out, HDy.out, HT.out.2.1])]
        have HB15 := Lib.hid (below_via HB14.out hb)
        have HIx15 : Hid (x.In w15) := Lib.hid (HIx14.out.after hb)
        have HKx15 : Hid (BkD w15 w11.heap.size x) := Lib.hid (Bk.after HKx14.out hb HKx14.out.lt)
        have HIy15 : Hid (y.In w15) := Lib.hid (HIy14.out.after hb)
        have HKy15 : Hid (BkD w15 w13.heap.size y) := Lib.hid (Bk.after HKy14.out hb HKy14.out.lt)
        clear hb
        clear xc0 xc1 xc2 xc3 xc4 xc5 xc6 xc7 xc8 xc9 xc10 xc11 xc12 xcl
        clear yc0 yc1 yc2 yc3 yc4 yc5 yc6 yc7 yc8 yc9 yc10 yc11 yc12 ycl
        go_wp2
        go_ret
        exact ⟨rfl, HB15.out⟩

      subst hxb
      have es1 : ∀ w, (Instr.slice 9 (.string (ba l)) none (some (.int .i64 m)) none).run Tryz.prog w = .ok (.string (ba (l.take m))) w := fun w => by
        have h := run_slice_string_to_if (P := Tryz.prog) w 9 (ba l) .i64 (m : Int) Tryz.underlying9
        rw [h, if_pos ⟨by omega, by show (m : Int) ≤ (l.length : Int); omega⟩, ext7, Int.toNat_natCast, List.drop_zero]
      have es2 : ∀ w, (Instr.slice 9 (.string (ba l)) (some (.int .i64 m)) none none).run Tryz.prog w = .ok (.string (ba (l.drop m))) w := fun w => by
        have h := run_slice_string_from_if (P := Tryz.prog) w 9 (ba l) .i64 (m : Int) Tryz.underlying9
        have e : (ba l).size = l.length := rfl
        rw [h, if_pos ⟨by omega, by show (m : Int) ≤ (l.length : Int); omega⟩, ext7, Int.toNat_natCast, e, List.take_length]
      have ec3 : ∀ w, (Op.stringOp .add (ba (l.take m)) ⟨#[32, 32]⟩).run Tryz.prog w = .ok (.string (ba (l.take m ++ [32, 32]))) w := fun w => cat7 w (l.take m) [32, 32] (by simp only [List.length_take, List.length_cons, List.length_nil]; omega)
      have ec4 : ∀ w, (Op.stringOp .add (ba (l.take m ++ [32, 32])) (ba (l.drop m))).run Tryz.prog w = .ok (.string (ba (l.take m ++ [32, 32] ++ l.drop m))) w := fun w => cat7 w (l.take m ++ [32, 32]) (l.drop m) (by simp only [List.length_append, List.length_take, List.length_drop, List.length_cons, List.length_nil]; omega)
      have HT1 := Lib.hid (like_more Hl.out HQ.out Hx.out)
      clear HT0
      obtain ⟨T0, hT0⟩ : ∃ T0, T = T0 := ⟨_, rfl⟩
      subst hT0
      generalize l.take m ++ [32, 32] ++ l.drop m = U at ec4 HT1
      generalize l.take m ++ [32, 32] = Y1 at ec3 ec4
      generalize l.take m = Y2 at es1 ec3
      generalize l.drop m = Y3 at es2 ec4
      go_wp2_with (rw [Hg.out])
      go_region
      have HBd := Lib.hid HB1.out.drew
      clear ec1 ec2 ec3 ec4 es1 es2 ha0 hal hlt2 hk hk2 hml Hg Hx
      have HT := HT1
      go_wp2_with fail
      refine (prs l w1.drew (by have := Hl.out; unfold maxLen; omega) (HG.out.below HBd.out).gl).mono ?_
      rintro e w11 ⟨x, rfl, hi, hd, hb⟩
      obtain ⟨w12, hw12⟩ : ∃ w12, w11.alloc (.cells #[.int .i64 x.k, .string x.t.name, .slice x.t.cols.A x.t.cols.n x.t.cols.c, .slice x.t.chks.A x.t.chks.n x.t.chks.c, .string x.v.name, .string x.v.frm, .string x.v.wth, .int .i64 x.v.on0, .int .i64 x.v.on1, .slice x.v.whr.A x.v.whr.n x.v.whr.c, .slice x.v.pick.A x.v.pick.n x.v.pick.c, .bool x.v.grp, .slice x.v.aggs.A x.v.aggs.n x.v.aggs.c] 34) = w12 := ⟨_, rfl⟩
      have hb2 : Below w1.drew.heap.size w1.drew w12 := by rw [← hw12]; exact below_al hb _
      have HIx12 : Hid (x.In w12) := Lib.hid (by rw [← hw12]; exact hi.after (below_one _ _))
      have HKx12 : Hid (BkD w12 w11.heap.size x) := Lib.hid (by rw [← hw12]; exact Bk.new _ _ _)
      have HDx : Hid (x.df = defO l) := Lib.hid hd
      have HB12 := Lib.hid (below_via HBd.out hb2)
      clear hi hd hb hb2
      go_wp2_with fail
      refine (prs U w12 (by have := HT.out.2.2; unfold maxLen; omega) (HG.out.below HB12.out).gl).mono ?_
      rintro e w13 ⟨y, rfl, hi, hd, hb⟩
      obtain ⟨w14, hw14⟩ : ∃ w14, w13.alloc (.cells #[.int .i64 y.k, .string y.t.name, .slice y.t.cols.A y.t.cols.n y.t.cols.c, .slice y.t.chks.A y.t.chks.n y.t.chks.c, .string y.v.name, .string y.v.frm, .string y.v.wth, .int .i64 y.v.on0, .int .i64 y.v.on1, .slice y.v.whr.A y.v.whr.n y.v.whr.c, .slice y.v.pick.A y.v.pick.n y.v.pick.c, .bool y.v.grp, .slice y.v.aggs.A y.v.aggs.n y.v.aggs.c] 34) = w14 := ⟨_, rfl⟩
      have hb2 : Below w12.heap.size w12 w14 := by rw [← hw14]; exact below_al hb _
      have HIy14 : Hid (y.In w14) := Lib.hid (by rw [← hw14]; exact hi.after (below_one _ _))
      have HKy14 : Hid (BkD w14 w13.heap.size y) := Lib.hid (by rw [← hw14]; exact Bk.new _ _ _)
      have HDy : Hid (y.df = defO U) := Lib.hid hd
      have HB14 := Lib.hid (below_via HB12.out hb2)
      have HIx14 : Hid (x.In w14) := Lib.hid (HIx12.out.after hb2)
      have HKx14 : Hid (BkD w14 w11.heap.size x) := Lib.hid (Bk.after HKx12.out hb2 HKx12.out.lt)
      clear hi hd hb hb2
      rw [HT.out.1]
      obtain ⟨xc0, xc1, xc2, xc3, xc4, xc5, xc6, xc7, xc8, xc9, xc10, xc11, xc12, xcl⟩ := HKx14.out.all
      obtain ⟨yc0, yc1, yc2, yc3, yc4, yc5, yc6, yc7, yc8, yc9, yc10, yc11, yc12, ycl⟩ := HKy14.out.all
      go_wp2_with fail
      refine (sameD_c x y w14 HIx14.out HIy14.out).mono ?_
      rintro e w15 ⟨rfl, hb⟩
      rw [decide_eq_true (by rw [HDx.out, HDy.out, HT.out.2.1])]
      have HB15 := Lib.hid (below_via HB14.out hb)
      have HIx15 : Hid (x.In w15) := Lib.hid (HIx14.out.after hb)
      have HKx15 : Hid (BkD w15 w11.heap.size x) := Lib.hid (Bk.after HKx14.out hb HKx14.out.lt)
      have HIy15 : Hid (y.In w15) := Lib.hid (HIy14.out.after hb)
      have HKy15 : Hid (BkD w15 w13.heap.size y) := Lib.hid (Bk.after HKy14.out hb HKy14.out.lt)
      clear hb
      clear xc0 xc1 xc2 xc3 xc4 xc5 xc6 xc7 xc8 xc9 xc10 xc11 xc12 xcl
      clear yc0 yc1 yc2 yc3 yc4 yc5 yc6 yc7 yc8 yc9 yc10 yc11 yc12 ycl
      go_wp2
      go_ret
      exact ⟨rfl, HB15.out⟩

end Go.Proofs.YtjgpmnffagdhlaaGreatDoor
