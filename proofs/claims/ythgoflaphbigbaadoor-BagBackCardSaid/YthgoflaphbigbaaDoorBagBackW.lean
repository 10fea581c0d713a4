/-
  BagBack, walked: a bag of rows has just these rows, sorted, and rows of two lists, one behind the other, are both bags together. Of all lists of rows.
-/
import Derived.Test.YthgoflaphbigbaaDoorSameP5
import Derived.Test.YthgoflaphbigbaaDoorSortD
import Derived.Test.YthgoflaphbigbaaDoorShort4
namespace Go.Proofs.YthgoflaphbigbaaDoor
open Go Go.RowKit
set_option maxRecDepth 100000

theorem wpList_want {P : Program} {ops : Array Oper} {Q : Exit → Act → World → Prop} {a : Act} {w : World} {rest : List Oper} {o : Oper} (hw : Region.wanted o (yielded ops a.tmps) = true) (h : ∀ K : Act → World → Prop, (∀ a w, wpList P ops Q rest a w → K a w) → o.wp P a w K Q) : wpList P ops Q (o :: rest) a w :=
  wpList_step fun K hK => by rw [if_pos hw]; exact h K hK
/-- APPEND of rows onto a list of the call's own, where its guard holds. -/
theorem wpList_appW {ops : Array Oper} {rest : List Oper} {o : Oper} {a : Act} {Q : Exit → Act → World → Prop} {w : World} (hw : Region.wanted o (yielded ops a.tmps) = true) (s x : Operand) (ho : o.op = .call { callee := .builtin .append, args := #[s, x], argTypes := #[22, 22] })
    (B : Nat) (v : Value) (xs ys : List Hd) (A : Option Addr) (n c : Nat) (hs : a.eval s = v) (hb : OwnG w B 31 1 rdH v xs) (hx : a.eval x = .slice A n c) (hn : ys.length = n) (hsl : SlG w A 1 rdH ys)
    (hmax : xs.length + ys.length ≤ maxLen) (hbytes : (xs.length + ys.length) * 24 ≤ 140737488355328) (hB : B ≤ w.heap.size)
    (h : ∀ v' w', OwnG w' B 31 1 rdH v' (xs ++ ys) → w.grownBy w' v.ownBlock → wpList Tryd.prog ops Q rest (a.put o.dst v') w') : wpList Tryd.prog ops Q (o :: rest) a w := by
  obtain ⟨i0, hi, hz0, hz1, hz2⟩ := hOk.parts
  subst hn
  have some_case : ∀ (ad : Addr), A = some ad → (∀ j u, (ys.flatMap rdH)[j]? = some u → w.cell? (ad.add j) = some u) → wpList Tryd.prog ops Q (o :: rest) a w := by
    intro ad hA hcells
    subst hA
    refine wpList_want hw fun K hK => ?_
    obtain ⟨v', w', hr, h2, h3, h4, h5⟩ := run_append_own_at (P := Tryd.prog) w B 22 o.type 31 i0 _ 1 24 hOk.under hi hz0 hz1 hz2 hOk.zs hOk.pos v xs.length (xs.flatMap rdH) hb ad ys.length c (ys.flatMap rdH) (flat_len hOk.len ys) hcells (fun u hu => by obtain ⟨q, _, hq⟩ := List.mem_flatMap.1 hu; exact hOk.one q u hq) hmax hbytes hB
    unfold Oper.wp execOp
    simp only [ho, resolve, invoke, builtin, Sem.run_bind, Sem.run_pure, Result.andThen_ok, List.map_toArray, List.map_cons, List.map_nil, hs, hx, hr]
    refine hK _ _ (h v' w' ?_ h3)
    unfold OwnG
    rw [List.flatMap_append, List.length_append]
    exact h2
  rcases hsl with rfl | ⟨b, off, hA, hlt, hc⟩
  · cases A with
    | some ad => exact some_case ad rfl (fun j u hj => by simp at hj)
    | none =>
      refine wpList_want hw fun K hK => ?_
      have hr := app_none hOk w v B c o.type xs hb
      unfold Oper.wp execOp
      have hx' : a.eval x = .slice none 0 c := hx
      simp only [ho, resolve, invoke, builtin, Sem.run_bind, Sem.run_pure, Result.andThen_ok, List.map_toArray, List.map_cons, List.map_nil, hs, hx', hr]
      exact hK _ _ (h v w (by rw [List.append_nil]; exact hb) (World.grownBy.refl w _))
  · refine some_case ⟨b, off, none⟩ hA fun j u hj => ?_
    rw [Go.WideShapes.add_plain]
    exact SlG.flat hOk.len hOk.pos hc j u hj
theorem ofR_may {l : List (List Val)} (h : ∀ r ∈ l, mayR r = true) : ofR l = ofL l := by
  unfold ofR
  rw [if_pos (List.all_eq_true.2 h)]
theorem back_ok (l : List (List Val)) (h : ∀ r ∈ l, mayR r = true) (hl : l.length ≤ 1000) : rowsOkB (ofR l) = true := by
  rw [ofR_may h]
  unfold rowsOkB
  rw [may_ofL l h (by omega), Bool.and_true]
  unfold okFrom
  have hp := of_pos l
  have ha : (ofL l).all (fun x => decide (0 ≤ x.2)) = true := List.all_eq_true.2 fun x hx => decide_eq_true (by have := hp x hx; omega)
  rw [ha, Bool.true_and, Int.zero_add]
  have hlen : ∀ b : Bg, (∀ x ∈ b, 0 < x.2) → totN b = ((rowsB b).length : Int) := by
    intro b
    induction b with
    | nil => intro _; rfl
    | cons x b ih =>
      intro hb
      have h1 := ih fun y hy => hb y (List.mem_cons_of_mem _ hy)
      have h2 := hb x (by simp)
      rw [totN, h1, rows_cons, List.length_append, List.length_replicate]
      omega
  rw [hlen _ hp, (of_perm l).length_eq]
  exact decide_eq_true (by omega)
theorem back_sum (l m : List (List Val)) (hl : ∀ r ∈ l, mayR r = true) (hm : ∀ r ∈ m, mayR r = true) (h1 : l.length ≤ 1000) (h2 : m.length ≤ 1000) : ofR (l ++ m) = plusR [ofR l, ofR m] := by
  have hlm : ∀ r ∈ l ++ m, mayR r = true := fun r hr => by
    rcases List.mem_append.1 hr with h | h
    · exact hl r h
    · exact hm r h
  rw [ofR_may hl, ofR_may hm, ofR_may hlm, of_append]
  refine (plusR_of (fun b hb => ?_) ?_).symm
  · simp only [List.mem_cons, List.not_mem_nil, or_false] at hb
    rcases hb with rfl | rfl
    · exact may_ofL l hl (by omega)
    · exact may_ofL m hm (by omega)
  · rw [← of_append]
    exact may_ofL (l ++ m) hlm (by rw [List.length_append]; omega)
theorem tot_of (l : List (List Val)) : (ofR l).length ≤ l.length := by
  unfold ofR
  split
  · unfold ofL
    have key : ∀ (b a : Bg), (bothB a b).length ≤ a.length + b.length := by
      intro b
      induction b with
      | nil => intro a; exact Nat.le_refl _
      | cons x b ih =>
        intro a
        have h1 := ih (addB a x.1 x.2)
        have h2 := len_add a x.1 x.2
        rw [both_cons, List.length_cons]
        omega
    have := key (l.map fun r => (r, 1)) []
    simpa using this
  · exact Nat.zero_le _
set_option maxHeartbeats 16000000 in
theorem bagBack_w (A B : Option Addr) (n m c d : Nat) (hs ks : List Hd) (w : World) (hn : hs.length = n) (hm : ks.length = m) (hn1 : n ≤ maxLen) (hm1 : m ≤ maxLen) (hsl : SlG w A 1 rdH hs) (ksl : SlG w B 1 rdH ks) (hin : ∀ h ∈ hs, Ct.In w ⟨h, 1⟩) (kin : ∀ h ∈ ks, Ct.In w ⟨h, 1⟩) (hG : Gl w) :
    Calls Tryd.prog 4 #[.slice A n c, .slice B m d] w fun e w' => e = .returned (.bool true) ∧ Below w.heap.size w w' := by
  have Hn := Lib.hid hn
  have Hm := Lib.hid hm
  have Hn1 := Lib.hid hn1
  have Hm1 := Lib.hid hm1
  have Hs := Lib.hid hsl
  have Ks := Lib.hid ksl
  have Hi := Lib.hid hin
  have Ki := Lib.hid kin
  have HG := Lib.hid hG
  clear hn hm hn1 hm1 hsl ksl hin kin hG
  go_enter Tryd.func4, Tryd.ntmps4
  go_wp2_with fail
  refine (fixed_c w HG.out).mono ?_
  rintro e w1 ⟨rfl, hb⟩
  have Sw1 := Lib.hid (hb)
  clear hb
  go_wp2_with fail
  refine (shortRows_c A n c hs w1 Hn.out Hn1.out (Hs.out.after Sw1.out) (fun h hh => ((Hi.out h hh).after Sw1.out).hd) (fun h hh => (Hi.out h hh).sz)).mono ?_
  rintro e w2 ⟨rfl, hb⟩
  have Sw2 := Lib.hid (hb)
  clear hb
  cases hsa : shortRR (hs.map (·.xs))
  · go_wp2_with fail
    refine (fixed_c w2 (HG.out.after (below_via Sw1.out Sw2.out))).mono ?_
    rintro e w3 ⟨rfl, hb⟩
    have Sw3 := Lib.hid (hb)
    clear hb
    have HF := Lib.hid (below_via (below_via Sw1.out Sw2.out) Sw3.out)
    clear Sw1 Sw2 Sw3
    go_wp2
    go_ret
    exact ⟨rfl, HF.out⟩
  · have Hhsa := Lib.hid hsa
    clear hsa
    go_wp2_with fail
    refine (shortRows_c B m d ks w2 Hm.out Hm1.out (Ks.out.after (below_via Sw1.out Sw2.out)) (fun h hh => ((Ki.out h hh).after (below_via Sw1.out Sw2.out)).hd) (fun h hh => (Ki.out h hh).sz)).mono ?_
    rintro e w3 ⟨rfl, hb⟩
    have Sw3 := Lib.hid (hb)
    clear hb
    cases hsb : shortRR (ks.map (·.xs))
    · go_wp2_with fail
      refine (fixed_c w3 (HG.out.after (below_via (below_via Sw1.out Sw2.out) Sw3.out))).mono ?_
      rintro e w4 ⟨rfl, hb⟩
      have Sw4 := Lib.hid (hb)
      clear hb
      have HF := Lib.hid (below_via (below_via (below_via Sw1.out Sw2.out) Sw3.out) Sw4.out)
      clear Sw1 Sw2 Sw3 Sw4
      go_wp2
      go_ret
      exact ⟨rfl, HF.out⟩
    · have Hhsb := Lib.hid hsb
      clear hsb
      have hna : n ≤ 100 := by
        have := Hhsa.out
        unfold shortRR at this
        rw [Bool.and_eq_true, decide_eq_true_eq, List.length_map, Hn.out] at this
        exact this.2
      have hma : m ≤ 100 := by
        have := Hhsb.out
        unfold shortRR at this
        rw [Bool.and_eq_true, decide_eq_true_eq, List.length_map, Hm.out] at this
        exact this.2
      have Hb3 := Lib.hid (below_via (below_via Sw1.out Sw2.out) Sw3.out)
      clear Sw1 Sw2 Sw3
      go_wp2_with fail
      go_loopw [5] (fun i wr => ∃ k : Nat, k ≤ n + m ∧ i = .int .i64 k ∧ Hid (Below w.heap.size w wr) ∧ Hid (∀ j h, j < k → (hs ++ ks)[j]? = some h → mayR h.xs = true)) (fun i _ => n + m - (intOf i).toNat)
      case atStart => exact ⟨0, Nat.zero_le _, rfl, Hb3, Lib.hid (fun j h hj => absurd hj (Nat.not_lt_zero _))⟩
      case round =>
        obtain ⟨k, hk, rfl, hb, hall⟩ := hrel
        clear Hb3
        have hsum : IntKind.i64.wrap ((n : Int) + m) = ((n + m : Nat) : Int) := by rw [IntKind.wrap_i64]; omega
        have hlen : (hs ++ ks).length = n + m := by rw [List.length_append, Hn.out, Hm.out]
        have Hlen := Lib.hid hlen
        clear hlen
        by_cases hlt : k < n + m
        · have hltz : (k : Int) < ((n + m : Nat) : Int) := by omega
          by_cases hkn : k < n
          · obtain ⟨b, off, h, rfl, hblt, hh, c0⟩ := Hs.out.at1 (k := k) (by rw [Hn.out]; exact hkn)
            have d0 := (hb.out.cell (p := ⟨b, off + k, none⟩) hblt).trans (c0 _ rfl)
            have l0 : b < wr.heap.size := Nat.lt_of_lt_of_le hblt hb.out.size
            have Hh := Lib.hid ((Hi.out h (List.mem_of_getElem? hh)).after hb.out)
            have Hat : Hid ((hs ++ ks)[k]? = some h) := Lib.hid (by rw [List.getElem?_append_left (by rw [Hn.out]; exact hkn)]; exact hh)
            clear c0 hblt hh
            obtain ⟨hA, hn', hc', xs⟩ := h
            simp only [] at d0
            have hd1 : decide ((k : Int) < n) = true := decide_eq_true (by omega)
            have hd2 : decide ((n : Int) ≤ k) = false := decide_eq_false (by omega)
            have hkn2 : (k : Int) < n := by omega
            go_wp2_with fail
            refine (rmayRow_c hA hn' hc' xs _ Hh.out.hd.len Hh.out.hd.max Hh.out.hd.sl Hh.out.sz).mono ?_
            rintro e v1 ⟨rfl, hb1⟩
            rw [rmay_mayR]
            have Hb2 := Lib.hid (below_via hb.out hb1)
            clear hb1 hb d0
            cases hM : mayR xs
            · go_wp2
              go_ret
              exact ⟨rfl, Hb2.out⟩
            · have Hall2 : Hid (∀ j h, j < k + 1 → (hs ++ ks)[j]? = some h → mayR h.xs = true) := Lib.hid fun j h hj hjh => by
                by_cases e : j = k
                · subst e
                  rw [Hat.out] at hjh
                  cases hjh
                  exact hM
                · exact hall.out j h (by omega) hjh
              clear hall Hat hM
              go_wp2
              go_roundw
              case rel => exact ⟨k + 1, by omega, by go_num, Hb2, Hall2⟩
              case measure => simp [intOf]; omega
          · obtain ⟨q, hq⟩ : ∃ q, k = n + q := ⟨k - n, by omega⟩
            have hqm : q < m := by omega
            obtain ⟨b, off, h, rfl, hblt, hh, c0⟩ := Ks.out.at1 (k := q) (by rw [Hm.out]; exact hqm)
            have d0 := (hb.out.cell (p := ⟨b, off + q, none⟩) hblt).trans (c0 _ rfl)
            have l0 : b < wr.heap.size := Nat.lt_of_lt_of_le hblt hb.out.size
            have Hh := Lib.hid ((Ki.out h (List.mem_of_getElem? hh)).after hb.out)
            have Hat : Hid ((hs ++ ks)[k]? = some h) := Lib.hid (by rw [hq, List.getElem?_append_right (by rw [Hn.out]; omega), Hn.out, Nat.add_sub_cancel_left]; exact hh)
            clear c0 hblt hh
            obtain ⟨hA, hn', hc', xs⟩ := h
            simp only [] at d0
            have hd1 : decide ((k : Int) < n) = false := decide_eq_false (by omega)
            have hd2 : decide ((n : Int) ≤ k) = true := decide_eq_true (by omega)
            have hkn2 : ¬ (k : Int) < n := by omega
            have hkn3 : (n : Int) ≤ k := by omega
            have hsub : IntKind.i64.wrap ((k : Int) - n) = (q : Int) := by rw [IntKind.wrap_i64]; omega
            have hq0 : (0 : Int) ≤ q := by omega
            have hqm2 : (q : Int) < m := by omega
            clear hq
            go_wp2_with fail
            refine (rmayRow_c hA hn' hc' xs _ Hh.out.hd.len Hh.out.hd.max Hh.out.hd.sl Hh.out.sz).mono ?_
            rintro e v1 ⟨rfl, hb1⟩
            rw [rmay_mayR]
            have Hb2 := Lib.hid (below_via hb.out hb1)
            clear hb1 hb d0
            cases hM : mayR xs
            · go_wp2
              go_ret
              exact ⟨rfl, Hb2.out⟩
            · have Hall2 : Hid (∀ j h, j < k + 1 → (hs ++ ks)[j]? = some h → mayR h.xs = true) := Lib.hid fun j h hj hjh => by
                by_cases e : j = k
                · subst e
                  rw [Hat.out] at hjh
                  cases hjh
                  exact hM
                · exact hall.out j h (by omega) hjh
              clear hall Hat hM
              go_wp2
              go_roundw
              case rel => exact ⟨k + 1, by omega, by go_num, Hb2, Hall2⟩
              case measure => simp [intOf]; omega
        · obtain rfl : k = n + m := by omega
          have hltz : ¬ ((n + m : Nat) : Int) < ((n + m : Nat) : Int) := by omega
          have Hml : Hid (∀ r ∈ hs.map (·.xs), mayR r = true) := Lib.hid fun r hr => by
            obtain ⟨h, hh, rfl⟩ := List.mem_map.1 hr
            obtain ⟨j, hj, e⟩ := List.getElem_of_mem (List.mem_append_left ks hh)
            exact hall.out j h (by rw [← Hlen.out]; exact hj) (by rw [List.getElem?_eq_getElem hj, e])
          have Hmm : Hid (∀ r ∈ ks.map (·.xs), mayR r = true) := Lib.hid fun r hr => by
            obtain ⟨h, hh, rfl⟩ := List.mem_map.1 hr
            obtain ⟨j, hj, e⟩ := List.getElem_of_mem (List.mem_append_right hs hh)
            exact hall.out j h (by rw [← Hlen.out]; exact hj) (by rw [List.getElem?_eq_getElem hj, e])
          clear hall
          obtain ⟨v0, hv0⟩ : ∃ v0, v0 = wr := ⟨wr, rfl⟩
          subst hv0
          go_wp2_with fail
          refine (of_c A n c hs v0 Hn.out (by omega) (Hs.out.after hb.out) (fun h hh => (Hi.out h hh).after hb.out)).mono ?_
          rintro e v1 ⟨Aa, na, ca, oa, rfl, hb1, hBa, hpa⟩
          have Sv1 := Lib.hid (hb1)
          have Ba := Lib.hid hBa
          have Pa := Lib.hid hpa
          clear hb1 hBa hpa
          have hna2 : na ≤ 100 := by
            have h5 := congrArg List.length Pa.out
            have h6 := tot_of (hs.map (·.xs))
            rw [pl_len, Ba.out.len] at h5
            rw [List.length_map, Hn.out] at h6
            omega
          have hcr := rows_c Aa na ca oa v1 Ba.out (by omega)
          rw [Pa.out, back_ok _ Hml.out (by rw [List.length_map, Hn.out]; omega)] at hcr
          have Hcr := Lib.hid hcr
          clear hcr
          go_wp2_with fail
          refine (Hcr.out).mono ?_
          rintro e v2 ⟨vv, rfl, ⟨hsaid, hb1⟩⟩
          have Sv2 := Lib.hid (hb1)
          obtain ⟨Al, nl, cl, hl, rfl, hll, hnl, hlsl, hlin, hlx⟩ := hsaid
          rw [if_pos rfl, Pa.out, ofR_may Hml.out, rows_of] at hlx
          have Lsl := Lib.hid hlsl
          have Lin := Lib.hid hlin
          have Lx := Lib.hid hlx
          have Ll := Lib.hid hll
          have Lnl := Lib.hid hnl
          clear hb1 hlsl hlin hlx hll hnl Hcr
          go_wp2_with fail
          refine (rsort_c A n c hs v2 Hn.out (by omega) (Hs.out.after (below_via hb.out (below_via Sv1.out Sv2.out))) (fun h hh => ((Hi.out h hh).after (below_via hb.out (below_via Sv1.out Sv2.out))).hd)).mono ?_
          rintro e v3 ⟨As, cs, os, rfl, hb1, hol, hosl, hop, how⟩
          have Sv3 := Lib.hid (hb1)
          have Osl := Lib.hid hosl
          have Ol := Lib.hid hol
          have Ox := Lib.hid how
          have Oin : Hid (∀ h ∈ os, Hd.In v3 h) := Lib.hid fun h hh => ((Hi.out h (hop.mem_iff.1 hh)).after (below_via (below_via hb.out (below_via Sv1.out Sv2.out)) hb1)).hd
          clear hb1 hosl hol hop how
          have hcs := sameRows_c Al As nl n cl cs hl os v3 Ll.out Ol.out (by have := Lnl.out; unfold maxLen; omega) (by unfold maxLen; omega) (Lsl.out.after Sv3.out) (fun h hh => ((Lin.out h hh).after Sv3.out).hd) Osl.out Oin.out
          rw [Lx.out, show os.map (·.xs) = sortR (hs.map (·.xs)) from Ox.out, sameR_self] at hcs
          have Hcs := Lib.hid hcs
          clear hcs
          go_wp2_with fail
          refine (Hcs.out).mono ?_
          rintro e v4 ⟨rfl, hb1⟩
          have Sv4 := Lib.hid (hb1)
          clear hb1 Hcs
          have HO1 : Hid (OwnH (v4.alloc (.cells #[] 31)) v4.heap.size (.slice (some ⟨v4.heap.size, 0, none⟩) 0 0) []) := OwnG.made v4 v4.heap.size _ #[] 0 (Nat.le_refl _) (Nat.zero_le _) rfl
          have HD1 := Lib.hid ((Hs.out.after (below_via hb.out (below_via (below_via (below_via Sv1.out Sv2.out) Sv3.out) Sv4.out))).alloc (.cells #[] 31))
          have HD2 := Lib.hid ((Ks.out.after (below_via hb.out (below_via (below_via (below_via Sv1.out Sv2.out) Sv3.out) Sv4.out))).alloc (.cells #[] 31))
          go_wp2_with (at_builtin; go_must (first
            | (refine wpList_appW (by kernel_rfl) (.tmp 73) (.tmp 74) rfl v4.heap.size _ ([] : List Hd) hs A n c rfl HO1.out rfl Hn.out HD1.out (by rw [Hn.out]; simp [maxLen]; omega) (by rw [Hn.out]; simp; omega) (by simp) ?_; intro x5 v5 hv5 hg5; rw [List.nil_append] at hv5; have Hb5 : Hid (Below v4.heap.size v4 v5) := Lib.hid ((below_one v4 (.cells #[] 31)).grown hg5 (by simp) (fun k hk => by cases hk; exact Nat.le_refl _)); have HO5 := Lib.hid hv5; have HD5 := Lib.hid ((Ks.out.after (below_via hb.out (below_via (below_via (below_via Sv1.out Sv2.out) Sv3.out) Sv4.out))).after Hb5.out); clear hv5 hg5)
            | (refine wpList_appW (by kernel_rfl) (.tmp 75) (.tmp 76) rfl v4.heap.size _ hs ks B m d rfl HO5.out rfl Hm.out HD5.out (by rw [Hn.out, Hm.out]; unfold maxLen; omega) (by rw [Hn.out, Hm.out]; omega) Hb5.out.size ?_; intro x6 v6 hv6 hg6; have Hb6 : Hid (Below v4.heap.size v4 v6) := Lib.hid (Hb5.out.grown hg6 Hb5.out.size (fun k hk => (HO5.out.lt k hk).1)); obtain ⟨A6, c6, rfl⟩ := hv6.isSlice; have HO6 := Lib.hid hv6; clear hv6 hg6)))
          have hl6 : (hs ++ ks).length = n + m := Hlen.out
          obtain ⟨A7, c7, e7, _, _, hs6⟩ := HO6.out.sl hOk.len
          injection e7 with e7 e8 e9
          subst e7
          have H6s := Lib.hid hs6
          have Sz6 := Lib.hid (below_via (below_via hb.out (below_via (below_via (below_via Sv1.out Sv2.out) Sv3.out) Sv4.out)) Hb6.out)
          have H6in : Hid (∀ h ∈ hs ++ ks, Ct.In v6 ⟨h, 1⟩) := Lib.hid fun h hh => by
            rcases List.mem_append.1 hh with hh | hh
            · exact (Hi.out h hh).after Sz6.out
            · exact (Ki.out h hh).after Sz6.out
          have hlen6 : hs.length + ks.length = n + m := by rw [Hn.out, Hm.out]
          rw [hlen6]
          clear hs6 e8 e9 HO1 HD1 HD2 HO5 HD5 HO6 hlen6
          refine (of_c A6 (n + m) c6 (hs ++ ks) v6 hl6 (by omega) H6s.out H6in.out).mono ?_
          rintro e v7 ⟨A8, n8, c8, o8, rfl, hb7, hB8, hp8⟩
          have Sz7 := Lib.hid (below_via Sz6.out hb7)
          have B8 := Lib.hid hB8
          have P8 := Lib.hid hp8
          have T7 := Lib.hid hb7
          clear hb7 hB8 hp8
          go_wp2_with fail
          refine (of_c A n c hs v7 Hn.out (by omega) (Hs.out.after Sz7.out) (fun h hh => (Hi.out h hh).after Sz7.out)).mono ?_
          rintro e v8 ⟨A9, n9, c9, o9, rfl, hb8, hB9, hp9⟩
          have Sz8 := Lib.hid (below_via Sz7.out hb8)
          have B9 := Lib.hid hB9
          have P9 := Lib.hid hp9
          have T8 := Lib.hid hb8
          clear hb8 hB9 hp9
          go_wp2_with fail
          refine (of_c B m d ks v8 Hm.out (by omega) (Ks.out.after Sz8.out) (fun h hh => (Ki.out h hh).after Sz8.out)).mono ?_
          rintro e v9 ⟨Aq, nq, cq, oq, rfl, hb9, hBq, hpq⟩
          have Sz9 := Lib.hid (below_via Sz8.out hb9)
          have Bq := Lib.hid hBq
          have Pq := Lib.hid hpq
          have T9 := Lib.hid hb9
          clear hb9 hBq hpq
          have hn9 : n9 ≤ 100 := by
            have h5 := congrArg List.length P9.out
            have h6 := tot_of (hs.map (·.xs))
            rw [pl_len, B9.out.len] at h5
            rw [List.length_map, Hn.out] at h6
            omega
          have hnq : nq ≤ 100 := by
            have h5 := congrArg List.length Pq.out
            have h6 := tot_of (ks.map (·.xs))
            rw [pl_len, Bq.out.len] at h5
            rw [List.length_map, Hm.out] at h6
            omega
          go_wp2_with fail
          have hcp := plus_c (some ⟨v9.heap.size, 0, none⟩) 2 2 [⟨A9, n9, c9, o9⟩, ⟨Aq, nq, cq, oq⟩] (v9.alloc (.cells #[.slice A9 n9 c9, .slice Aq nq cq] 27)) rfl (by omega) (SlG.new bOkL.len [⟨A9, n9, c9, o9⟩, ⟨Aq, nq, cq, oq⟩] rfl) (fun h hh => by simp only [List.mem_cons, List.not_mem_nil, or_false] at hh; rcases hh with rfl | rfl; exact B9.out.after (below_via T9.out (below_one _ _)); exact Bq.out.after (below_one _ _)) (by show n9 + (nq + 0) ≤ 100000; omega)
          simp only [List.map_cons, List.map_nil, P9.out, Pq.out] at hcp
          rw [← back_sum _ _ Hml.out Hmm.out (by rw [List.length_map, Hn.out]; omega) (by rw [List.length_map, Hm.out]; omega)] at hcp
          have Hcp := Lib.hid hcp
          clear hcp
          refine Hcp.out.mono ?_
          rintro e v10 ⟨Ap, np, cp, ps, rfl, hb10, hBp, hpp⟩
          have T10 := Lib.hid (below_via (below_one v9 (.cells #[.slice A9 n9 c9, .slice Aq nq cq] 27)) hb10)
          have Bp := Lib.hid hBp
          have Pp := Lib.hid hpp
          clear hb10 hBp hpp Hcp
          have hce := sameB_c A8 Ap n8 np c8 cp o8 ps v10 (B8.out.after (below_via T8.out (below_via T9.out T10.out))) Bp.out
          rw [P8.out, List.map_append, Pp.out, sameB_self] at hce
          have Hce := Lib.hid hce
          clear hce
          go_wp2_with fail
          refine Hce.out.mono ?_
          rintro e v11 ⟨rfl, hb11⟩
          have HF := Lib.hid (below_via (below_via Sz9.out T10.out) hb11)
          clear hb11 Hce
          go_wp2
          go_ret
          exact ⟨rfl, HF.out⟩
end Go.Proofs.YthgoflaphbigbaaDoor
