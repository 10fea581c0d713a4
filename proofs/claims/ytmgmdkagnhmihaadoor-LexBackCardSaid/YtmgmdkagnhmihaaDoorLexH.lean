/-
  The print of tokens, as the program makes it: of at most 20000 tokens.
-/
import Derived.Test.YtmgmdkagnhmihaaDoorLexG
namespace Go.Proofs.YtmgmdkagnhmihaaDoor
open Go Go.RowKit
set_option maxRecDepth 100000

theorem SlG.at5 {w : World} {A : Option Addr} {xs : List Tk} (h : SlG w A 5 rdT xs) {k : Nat} (hk : k < xs.length) :
    ∃ b off x, A = some ⟨b, off, none⟩ ∧ b < w.heap.size ∧ xs[k]? = some x ∧ w.cell? ⟨b, off + k * 5, none⟩ = some (.int .i64 x.k) ∧ w.cell? ⟨b, off + k * 5 + 1, none⟩ = some (.string x.t) ∧ w.cell? ⟨b, off + k * 5 + 2, none⟩ = some (.int .i64 x.v.k) ∧ w.cell? ⟨b, off + k * 5 + 3, none⟩ = some (.int .i64 x.v.n) ∧ w.cell? ⟨b, off + k * 5 + 4, none⟩ = some (.string x.v.s) := by
  rcases h with rfl | ⟨b, off, hA, hlt, h⟩
  · simp at hk
  · have hx := List.getElem?_eq_getElem hk
    have h := h k xs[k] hx
    exact ⟨b, off, xs[k], hA, hlt, hx, h 0 _ rfl, h 1 _ rfl, h 2 _ rfl, h 3 _ rfl, h 4 _ rfl⟩
theorem Mk.pre {α : Type} {rd : α → List Value} {S N : Nat} {w : World} {g : Nat} {xs : List α} {y : α} (h : Mk w g S N rd (xs ++ [y])) : Mk w g S N rd xs :=
  ⟨h.lt, h.all, h.thaw, fun i x hx => h.at' i x (by rw [List.getElem?_append_left (List.getElem?_eq_some_iff.1 hx).1]; exact hx)⟩
theorem txt_len (t : Tk) (hm : mayT t = true) (h6 : T64 t) : (txtT t).length ≤ 5000 := by
  obtain ⟨k, s, v⟩ := t
  unfold mayT at hm
  unfold txtT
  simp only at *
  by_cases h0 : k = 0
  · subst h0
    simp only [beq_self_eq_true, if_true, Bool.and_eq_true] at hm
    rw [if_neg (by decide)]
    have hw := hm.1
    unfold wordB at hw
    split at hw
    · cases hw
    · rename_i c r e
      simp only [Bool.and_eq_true, decide_eq_true_eq] at hw
      rw [e]; omega
  have k0 : (k == 0) = false := by simpa using h0
  rw [k0] at hm
  simp only [Bool.false_eq_true, if_false] at hm
  by_cases h1 : k = 1
  · subst h1
    simp only [beq_self_eq_true, if_true, Bool.and_eq_true] at hm ⊢
    have hv := valid_of_may _ hm.2.2
    refine text_len v h6 ?_
    rcases hv with ⟨_, _, h⟩ | ⟨_, _, h⟩ | ⟨_, h⟩ | ⟨_, _, h⟩
    · rw [h]; exact Nat.zero_le _
    · rw [h]; exact Nat.zero_le _
    · rw [h]; exact Nat.zero_le _
    · omega
  have k1 : (k == 1) = false := by simpa using h1
  rw [k1] at hm ⊢
  simp only [Bool.false_eq_true, if_false] at hm ⊢
  by_cases h2 : k = 2
  · subst h2
    simp only [beq_self_eq_true, if_true, Bool.and_eq_true] at hm
    have hw := hm.1
    unfold signB at hw
    split at hw
    · rename_i c e
      rw [e]; simp
    · cases hw
  · have k2 : (k == 2) = false := by simpa using h2
    rw [k2] at hm
    cases hm
theorem may_size (t : Tk) (hm : mayT t = true) (hk : (t.k == 1) = true) : t.v.s.size ≤ 2000 ∧ t.t = emp := by
  obtain ⟨k, s, v⟩ := t
  simp only [beq_iff_eq] at hk
  subst hk
  unfold mayT at hm
  simp only at *
  rw [if_neg (by decide)] at hm
  simp only [beq_self_eq_true, if_true, Bool.and_eq_true] at hm
  refine ⟨?_, emp_of hm.1⟩
  rcases valid_of_may _ hm.2.2 with ⟨_, _, h⟩ | ⟨_, _, h⟩ | ⟨_, h⟩ | ⟨_, _, h⟩
  · rw [h]; exact Nat.zero_le _
  · rw [h]; exact Nat.zero_le _
  · rw [h]; exact Nat.zero_le _
  · omega
theorem join_len (sep : List UInt8) (B : Nat) : ∀ l : List (List UInt8), (∀ x ∈ l, x.length ≤ B) → (Lib.join l sep).length ≤ l.length * (B + sep.length) := by
  intro l h
  cases l with
  | nil => simp [Lib.join]
  | cons x a =>
    have key : ∀ a : List (List UInt8), (∀ x ∈ a, x.length ≤ B) → (Lib.joinTail sep a).length ≤ a.length * (B + sep.length) := by
      intro a
      induction a with
      | nil => intro _; simp [Lib.joinTail]
      | cons y a ih =>
        intro h
        have h1 := ih (fun z hz => h z (List.mem_cons_of_mem _ hz))
        have h2 := h y (by simp)
        simp only [Lib.joinTail, List.map_cons, List.flatten_cons, List.length_append, List.length_cons, Nat.succ_mul] at h1 ⊢
        omega
    have h1 := key a (fun z hz => h z (List.mem_cons_of_mem _ hz))
    have h2 := h x (by simp)
    rw [Lib.join_cons, List.length_append, List.length_cons, Nat.succ_mul]
    omega
/-- The print of tokens, if all of them may be. -/
def prtO (ts : List Tk) : List UInt8 := if ts.all mayT then printL ts else []
theorem prt_bad {ts : List Tk} {k : Nat} {t : Tk} (hk : ts[k]? = some t) (hm : mayT t = false) : prtO ts = [] := by
  unfold prtO
  rw [if_neg]
  intro h
  have := List.all_eq_true.1 h t (List.mem_of_getElem? hk)
  rw [hm] at this; cases this
set_option maxHeartbeats 1000000 in
theorem print_c (A : Option Addr) (n c : Nat) (ts : List Tk) (w : World) (hn : ts.length = n) (hn1 : n ≤ 20000) (hs : SlG w A 5 rdT ts) (h6 : ∀ t ∈ ts, T64 t) (hz : ∀ t ∈ ts, t.t.size ≤ maxLen ∧ t.v.s.size ≤ maxLen) (hG : GL w) :
    Calls Tryd.prog 11 #[.slice A n c] w fun e w' => e = .returned (.string (ba (prtO ts))) ∧ Below w.heap.size w w' := by
  obtain ⟨cells, hcs, hmk⟩ := make_run sOk n (by omega) (by unfold maxLen; omega)
  obtain ⟨R, hR⟩ : ∃ R, prtO ts = R := ⟨_, rfl⟩
  rw [hR]
  have HR := Lib.hid hR
  clear hR
  have Hs := Lib.hid hs
  have Hn := Lib.hid hn
  have H6 := Lib.hid h6
  have Hz := Lib.hid hz
  have HG := Lib.hid hG
  have Hcs := Lib.hid hcs
  clear hs hn h6 hz hG hcs
  go_enter Tryd.func11, Tryd.ntmps11
  go_wp2_with fail
  have Hmk : Hid (Mk (w.alloc (.cells cells 9)) w.heap.size 1 n rdS []) := Mk.new w cells _ (by rw [Hcs.out])
  have Hb1 : Hid (Below w.heap.size w (w.alloc (.cells cells 9))) := below_one _ _
  clear hmk Hcs
  go_loopw [11] (fun i wr => ∃ k : Nat, k ≤ n ∧ i = .int .i64 k ∧ Hid (Below w.heap.size w wr) ∧ Hid (Mk wr w.heap.size 1 n rdS ((ts.take k).map txtT)) ∧ Hid (∀ t ∈ ts.take k, mayT t = true)) (fun i _ => n - (intOf i).toNat)
  case atStart => exact ⟨0, Nat.zero_le _, rfl, Hb1, Hmk, Lib.hid (fun t ht => by simp at ht)⟩
  case round =>
    obtain ⟨k, hk, rfl, hb, hM, hA⟩ := hrel
    have hM0 := Lib.hid hM.out.lt
    clear Hmk Hb1
    by_cases hlt : k < n
    · obtain ⟨b, off, t, rfl, hblt, hx, c0, c1, c2, c3, c4⟩ := Hs.out.at5 (by rw [Hn.out]; exact hlt)
      have d0 := (hb.out.cell (p := ⟨b, off + k * 5, none⟩) hblt).trans c0
      have d1 := (hb.out.cell (p := ⟨b, off + k * 5 + 1, none⟩) hblt).trans c1
      have d2 := (hb.out.cell (p := ⟨b, off + k * 5 + 2, none⟩) hblt).trans c2
      have d3 := (hb.out.cell (p := ⟨b, off + k * 5 + 3, none⟩) hblt).trans c3
      have d4 := (hb.out.cell (p := ⟨b, off + k * 5 + 4, none⟩) hblt).trans c4
      have l0 : b < wr.heap.size := Nat.lt_of_lt_of_le hblt hb.out.size
      have hmem := List.mem_of_getElem? hx
      have H6x := Lib.hid (H6.out t hmem)
      have Hzx := Lib.hid (Hz.out t hmem)
      have Hx := Lib.hid hx
      clear c0 c1 c2 c3 c4 hx hmem hblt
      go_wp2_with fail
      refine (tmay_c t _ Hzx.out.1 Hzx.out.2).mono ?_
      rintro e w1 ⟨rfl, hb1⟩
      have hb2 := below_via (below_one wr t.obj) hb1
      have Hb2 := Lib.hid (hb.out.trans (hb2.mono hb.out.size))
      have HM2 := Lib.hid (hM.out.after hb2 hM.out.lt)
      have HT2 := Lib.hid ((Bt.new wr t).after hb1)
      clear hb1 hb2 hM d0 d1 d2 d3 d4
      cases hmt : mayT t
      · have hR2 := HR.out
        rw [prt_bad Hx.out hmt] at hR2
        subst hR2
        clear HR hmt
        go_wp2
        go_ret
        exact ⟨rfl, Hb2.out⟩
      · have hlen : ((ts.take k).map txtT).length = k := by rw [List.length_map, List.length_take, Hn.out]; omega
        obtain ⟨u0, g0⟩ := HM2.out.all k (by omega)
        have z0 := HM2.out.thaw k
        obtain ⟨c0, c1, c2, c3, c4, f0, f1, f2, f3, f4, hlt1⟩ := HT2.out.all
        have hgt := HM2.out.lt
        have hset := HM2.out.set1 sOk.len t.t.data.toList (.string t.t) (by show [Value.string (ba _)] = _; rw [ba_of]) (by rw [hlen]; exact hlt)
        rw [hlen] at hset
        have Hset := Lib.hid hset
        have Hb3 := Lib.hid (Hb2.out.setCell (Nat.le_refl _) (p := ⟨w.heap.size, k, none⟩) (.string t.t))
        have hne : w.heap.size ≠ wr.heap.size := by have := hM0.out; omega
        have hA3 : ∀ x ∈ ts.take (k + 1), mayT x = true := by
          intro x hx2
          rw [List.take_add_one, Hx.out] at hx2
          simp at hx2
          rcases hx2 with hx2 | rfl
          · exact hA.out x hx2
          · exact hmt
        have HA3 := Lib.hid hA3
        have Hmt := Lib.hid hmt
        have htk : (ts.take k).map txtT ++ [txtT t] = (ts.take (k + 1)).map txtT := by
          rw [List.take_add_one, Hx.out]
          simp
        have Htk := Lib.hid htk
        clear hset hA3 hmt htk
        cases hk1 : t.k == 1
        · have hset2 := Hset.out
          have et : t.t.data.toList = txtT t := by unfold txtT; rw [if_neg (by rw [hk1]; decide)]
          rw [et, Htk.out] at hset2
          have Hset2 := Lib.hid hset2
          clear hset2 et Hset
          go_wp2_with fail
          go_roundw
          case rel => exact ⟨k + 1, by omega, by go_num, Hb3, Hset2, HA3⟩
          case measure => simp [intOf]; omega
        · have Hsz := Lib.hid (may_size t Hmt.out hk1).1
          have et : txtT t = textL t.v := by unfold txtT; rw [if_pos hk1]
          have Het := Lib.hid et
          clear et
          go_wp2_with fail
          refine (text_c t.v _ H6x.out Hsz.out (HG.out.after Hb3.out).gl).mono ?_
          rintro e w2 ⟨rfl, hb4⟩
          have hM4 := Hset.out.pre.after hb4 (by have := Hset.out.lt; exact this)
          have Hb4 := Lib.hid (Hb3.out.trans (hb4.mono Hb3.out.size))
          obtain ⟨u1, g1⟩ := hM4.all k (by omega)
          have z1 := hM4.thaw k
          have hset2 := hM4.set1 sOk.len (textL t.v) (.string ⟨(textL t.v).toArray⟩) rfl (by rw [hlen]; exact hlt)
          rw [hlen, ← Het.out, Htk.out, Het.out] at hset2
          have Hset2 := Lib.hid hset2
          have Hb5 := Lib.hid (Hb4.out.setCell (Nat.le_refl _) (p := ⟨w.heap.size, k, none⟩) (.string ⟨(textL t.v).toArray⟩))
          clear hset2 hM4 hb4 g0 z0
          obtain ⟨T, hT⟩ : ∃ T, (⟨(textL t.v).toArray⟩ : ByteArray) = T := ⟨_, rfl⟩
          rw [hT] at Hset2 Hb5 ⊢
          go_wp2_with fail
          go_roundw
          case rel => exact ⟨k + 1, by omega, by go_num, Hb5, Hset2, HA3⟩
          case measure => simp [intOf]; omega
    · obtain rfl : k = n := by omega
      have hM2 := hM.out
      have hA2 := hA.out
      rw [show ts.take k = ts from List.take_of_length_le (by rw [Hn.out]; omega)] at hM2 hA2
      have hR2 := HR.out
      unfold prtO at hR2
      rw [if_pos (List.all_eq_true.2 hA2)] at hR2
      have hlen := join_len [32] 5000 (ts.map txtT) (fun x hx => by obtain ⟨t, ht, rfl⟩ := List.mem_map.1 hx; exact txt_len t (hA2 t ht) (H6.out t ht))
      rw [List.length_map, Hn.out] at hlen
      have Hj := Lib.hid (sjoin_c w.heap.size k k (ts.map txtT) wr hM2 (by rw [List.length_map]; exact Hn.out) (Nat.le_refl _) (by simp only [List.length_cons, List.length_nil] at hlen; omega) hn1)
      clear hM2 hlen
      go_wp2_with fail
      refine Hj.out.mono ?_
      rintro e w1 ⟨rfl, hb1⟩
      go_wp2
      go_ret
      refine ⟨?_, hb.out.trans (hb1.mono hb.out.size)⟩
      rw [← hR2]
      rfl
end Go.Proofs.YtmgmdkagnhmihaaDoor
