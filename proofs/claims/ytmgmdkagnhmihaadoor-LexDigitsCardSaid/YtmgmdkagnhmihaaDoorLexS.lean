/-
  The document's own answers on words and tokens: whether they may be, whether two lists of them are the same. Of all tokens.
-/
import Derived.Test.YtmgmdkagnhmihaaDoorLexR
namespace Go.Proofs.YtmgmdkagnhmihaaDoor
open Go Go.RowKit
set_option maxRecDepth 100000

set_option maxHeartbeats 1000000 in
theorem rword_c (l : List UInt8) (w : World) (hl : l.length ≤ maxLen) : Calls Tryd.prog 22 #[.string (ba l)] w fun e w' => e = .returned (.bool (wordB l)) ∧ w' = w := by
  unfold maxLen at hl
  obtain ⟨R, hR⟩ : ∃ R, wordB l = R := ⟨_, rfl⟩
  rw [hR]
  have HR := Lib.hid hR
  clear hR
  go_enter Tryd.func22, Tryd.ntmps22
  go_wp2_with fail
  go_loopw [3] (fun i wr => ∃ k : Nat, k ≤ l.length ∧ i = .int .i64 k ∧ w = wr ∧ Hid (∀ c ∈ l.take k, inn c = true)) (fun i _ => l.length - (intOf i).toNat)
  case atStart => exact ⟨0, Nat.zero_le _, rfl, rfl, Lib.hid (by simp)⟩
  case round =>
    obtain ⟨k, hk, rfl, rfl, hA⟩ := hrel
    by_cases hlt2 : k < l.length
    · obtain ⟨x, hx⟩ : ∃ x, l[k]? = some x := ⟨_, List.getElem?_eq_getElem hlt2⟩
      have Hx := Lib.hid hx
      have Hg := Lib.hid (ba_get hx (by show k < l.toArray.size; simpa using hlt2))
      clear hx
      go_wp2_with fail
      rw [Hg.out]
      refine (rinner_c x w).mono ?_
      rintro e w1 ⟨rfl, rfl⟩
      cases hi : inn x
      · have hR2 : R = false := by
          rw [← HR.out]
          have hm := List.mem_of_getElem? Hx.out
          unfold wordB
          cases l with
          | nil => rfl
          | cons c r =>
            have : (c :: r).all inn = false := by
              rw [← Bool.not_eq_true, List.all_eq_true]
              intro h
              have := h x hm
              rw [hi] at this; cases this
            simp only [this, Bool.and_false]
        subst hR2
        clear HR hi
        go_wp2
        go_ret
        exact ⟨rfl, rfl⟩
      · have hA2 : ∀ c ∈ l.take (k + 1), inn c = true := by
          rw [List.take_add_one, Hx.out]
          intro c h
          simp at h
          rcases h with h | rfl
          · exact hA.out c h
          · exact hi
        have HA2 := Lib.hid hA2
        clear hA2 hi
        go_wp2
        go_roundw
        case rel => exact ⟨k + 1, by omega, by go_num, trivial, HA2⟩
        case measure => simp [intOf]; omega
    · have hke : k = l.length := by omega
      have hA2 := hA.out
      rw [List.take_of_length_le (by omega)] at hA2
      subst hke
      cases l with
      | nil =>
        have hR2 : R = false := by rw [← HR.out]; rfl
        subst hR2
        clear HR hA hA2 hk hlt2
        go_wp2
        go_ret
        exact ⟨rfl, rfl⟩
      | cons c r =>
        have hR2 : R = (decide ((c :: r).length ≤ 30) && decide (cls c = 2)) := by
          rw [← HR.out]
          unfold wordB
          simp only [List.all_eq_true.2 hA2, Bool.and_true]
        have HR2 := Lib.hid hR2
        have Hg : Hid ((ba (c :: r))[0]'(by show 0 < (c :: r).toArray.size; simp) = c) := rfl
        have hlt0 : 1 ≤ (((c :: r).length : Nat) : Int) := by rw [List.length_cons]; omega
        simp only [List.length_cons] at *
        clear HR hA hA2 hk hlt2 hR2
        by_cases h30 : ((r.length : Int) + 1) ≤ 30
        · have hd := decide_eq_true h30
          have hR3 : R = decide (cls c = 2) := by
            rw [HR2.out, decide_eq_true (show r.length + 1 ≤ 30 by omega)]; rfl
          have HR3 := Lib.hid hR3
          clear HR2 hR3
          go_wp2_with fail
          rw [Hg.out]
          refine (rletter_c c w).mono ?_
          rintro e w1 ⟨rfl, rfl⟩
          rw [← HR3.out]
          go_wp2
          go_ret
          exact ⟨rfl, rfl⟩
        · have hR3 : R = false := by
            rw [HR2.out, decide_eq_false (show ¬ r.length + 1 ≤ 30 by omega)]; rfl
          subst hR3
          clear HR2
          go_wp2
          go_ret
          exact ⟨rfl, rfl⟩
theorem guardT : Tryd.prog.eqGuardType Tryd.prog.depth 35 = false := by kernel_rfl
theorem run_eqInT (w : World) (k vk vn k' vk' vn' : Int) (s vs s' vs' : ByteArray) : (Op.equalIn 10000 35 (.agg #[.int .i64 k, .string s, .int .i64 vk, .int .i64 vn, .string vs]) (.agg #[.int .i64 k', .string s', .int .i64 vk', .int .i64 vn', .string vs'])).run Tryd.prog w = .ok (Tk.eq ⟨k, s, vk, vn, vs⟩ ⟨k', s', vk', vn', vs'⟩) w := by
  simp [go_sem, Tryd.underlying35, Tryd.underlying33, Tryd.underlying3, Tryd.underlying9]
  by_cases h1 : k = k' <;> by_cases h2 : s.toList = s'.toList <;> by_cases h3 : vk = vk' <;> by_cases h4 : vn = vn' <;> by_cases h5 : vs.toList = vs'.toList <;> simp [Tk.eq, Val.eq, h1, h2, h3, h4, h5]
theorem run_neT (w : World) (k vk vn k' vk' vn' : Int) (s vs s' vs' : ByteArray) : (binOp .neq 35 (.agg #[.int .i64 k, .string s, .int .i64 vk, .int .i64 vn, .string vs]) (.agg #[.int .i64 k', .string s', .int .i64 vk', .int .i64 vn', .string vs'])).run Tryd.prog w = .ok (.bool !(Tk.eq ⟨k, s, vk, vn, vs⟩ ⟨k', s', vk', vn', vs'⟩)) w := by
  rw [run_neq_struct, run_eqInT]; rfl
theorem run_eqT (w : World) (k vk vn k' vk' vn' : Int) (s vs s' vs' : ByteArray) : (binOp .eql 35 (.agg #[.int .i64 k, .string s, .int .i64 vk, .int .i64 vn, .string vs]) (.agg #[.int .i64 k', .string s', .int .i64 vk', .int .i64 vn', .string vs'])).run Tryd.prog w = .ok (.bool (Tk.eq ⟨k, s, vk, vn, vs⟩ ⟨k', s', vk', vn', vs'⟩)) w := by
  rw [run_eql_struct, run_eqInT]; rfl
instance : DecidableEq Tk := fun _ _ => decidable_of_iff _ Tk.eq_iff
theorem drop_at {α : Type} {l : List α} {k : Nat} {x : α} (hx : l[k]? = some x) : l.drop k = x :: l.drop (k + 1) := by
  have h1 := List.drop_eq_getElem_cons (List.getElem?_eq_some_iff.1 hx).1
  rw [(List.getElem?_eq_some_iff.1 hx).2] at h1
  exact h1
section
attribute [local go_sem ↓] run_neT run_eqV run_neV
set_option maxHeartbeats 1000000 in
theorem tsame_c (A B : Option Addr) (n m c d : Nat) (xs ys : List Tk) (w : World) (hn : xs.length = n) (hm : ys.length = m) (hn1 : n ≤ maxLen) (hm1 : m ≤ maxLen) (hs : SlG w A 5 rdT xs) (ks : SlG w B 5 rdT ys) :
    Calls Tryd.prog 12 #[.slice A n c, .slice B m d] w fun e w' => e = .returned (.bool (decide (xs = ys))) ∧ Below w.heap.size w w' := by
  unfold maxLen at hn1 hm1
  obtain ⟨R, hR⟩ : ∃ R, decide (xs = ys) = R := ⟨_, rfl⟩
  rw [hR]
  have HR := Lib.hid hR
  have Hn := Lib.hid hn
  have Hm := Lib.hid hm
  have Hs := Lib.hid hs
  have Ks := Lib.hid ks
  clear hn hm hs ks hR
  by_cases hnm : n = m
  case neg =>
    have hRf : false = R := by
      rw [← HR.out]
      exact (decide_eq_false (fun e => hnm (by rw [← Hn.out, ← Hm.out, e]))).symm
    subst hRf
    clear HR
    have hne : ((n : Int) != (m : Int)) = true := by simpa using (by omega : ¬ (n : Int) = m)
    go_enter Tryd.func12, Tryd.ntmps12
    go_wp2
    go_ret
    exact ⟨rfl, Below.refl _ _⟩
  subst hnm
  go_enter Tryd.func12, Tryd.ntmps12
  go_wp2_with fail
  go_loopw [5] (fun i wr => ∃ k : Nat, k ≤ n ∧ i = .int .i64 k ∧ Hid (Below w.heap.size w wr) ∧ Hid (decide (xs.drop k = ys.drop k) = R)) (fun i _ => n - (intOf i).toNat)
  case atStart => exact ⟨0, Nat.zero_le _, rfl, Below.refl _ _, HR⟩
  case round =>
    obtain ⟨k, hk, rfl, hb, hinv⟩ := hrel
    clear HR
    by_cases hlt : k < n
    · obtain ⟨b, off, x, rfl, hblt, hx, c0, c1, c2, c3, c4⟩ := Hs.out.at5 (by rw [Hn.out]; exact hlt)
      obtain ⟨b', off', y, rfl, hblt', hy, e0, e1, e2, e3, e4⟩ := Ks.out.at5 (by rw [Hm.out]; exact hlt)
      have d0 := (hb.out.cell (p := ⟨b, off + k * 5, none⟩) hblt).trans c0
      have d1 := (hb.out.cell (p := ⟨b, off + k * 5 + 1, none⟩) hblt).trans c1
      have d2 := (hb.out.cell (p := ⟨b, off + k * 5 + 2, none⟩) hblt).trans c2
      have d3 := (hb.out.cell (p := ⟨b, off + k * 5 + 3, none⟩) hblt).trans c3
      have d4 := (hb.out.cell (p := ⟨b, off + k * 5 + 4, none⟩) hblt).trans c4
      have f0 := (hb.out.cell (p := ⟨b', off' + k * 5, none⟩) hblt').trans e0
      have f1 := (hb.out.cell (p := ⟨b', off' + k * 5 + 1, none⟩) hblt').trans e1
      have f2 := (hb.out.cell (p := ⟨b', off' + k * 5 + 2, none⟩) hblt').trans e2
      have f3 := (hb.out.cell (p := ⟨b', off' + k * 5 + 3, none⟩) hblt').trans e3
      have f4 := (hb.out.cell (p := ⟨b', off' + k * 5 + 4, none⟩) hblt').trans e4
      have l1 : b < wr.heap.size := Nat.lt_of_lt_of_le hblt hb.out.size
      have l2 : b' < wr.heap.size := Nat.lt_of_lt_of_le hblt' hb.out.size
      have hst : (x.eq y && decide (xs.drop (k + 1) = ys.drop (k + 1))) = R := by
        rw [← hinv.out, drop_at hx, drop_at hy, Bool.eq_iff_iff]
        simp [Tk.eq_iff]
      have Hst := Lib.hid hst
      clear hinv hx hy c0 c1 c2 c3 c4 e0 e1 e2 e3 e4 hblt hblt' hst
      go_wp2_with fail
      go_region
      have hE : Tk.eq ⟨x.k, x.t, ⟨x.v.k, x.v.n, x.v.s⟩⟩ ⟨y.k, y.t, ⟨y.v.k, y.v.n, y.v.s⟩⟩ = x.eq y := rfl
      rw [hE]
      have Hb2 := Lib.hid hb.out.drew
      clear hE
      cases hxy : x.eq y
      · have hRf : false = R := by have := Hst.out; rw [hxy, Bool.false_and] at this; exact this
        subst hRf
        clear Hst hxy
        go_wp2
        go_ret
        exact ⟨rfl, Hb2.out⟩
      · have hst : decide (xs.drop (k + 1) = ys.drop (k + 1)) = R := by have := Hst.out; rw [hxy, Bool.true_and] at this; exact this
        have Hst2 := Lib.hid hst
        clear Hst hxy hst
        go_wp2
        go_roundw
        case rel => exact ⟨k + 1, by omega, by go_num, Hb2, Hst2⟩
        case measure => simp [intOf]; omega
    · obtain rfl : k = n := by omega
      have hRt : true = R := by
        have := hinv.out
        rw [show xs.drop k = [] from List.drop_eq_nil_of_le (by rw [Hn.out]; omega), show ys.drop k = [] from List.drop_eq_nil_of_le (by rw [Hm.out]; omega)] at this
        exact this
      subst hRt
      clear hinv
      go_wp2
      go_ret
      exact ⟨rfl, hb.out⟩
end
end Go.Proofs.YtmgmdkagnhmihaaDoor
