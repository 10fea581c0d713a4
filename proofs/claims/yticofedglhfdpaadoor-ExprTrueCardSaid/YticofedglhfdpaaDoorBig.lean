/-
  Whether an expression is too big for a law, and whether a row fits its columns' kinds.
-/
import Derived.Test.YticofedglhfdpaaDoorEFix
namespace Go.Proofs.YticofedglhfdpaaDoor
open Go Go.RowKit
set_option maxRecDepth 100000

/-- Whether a text is too long, in these steps. -/
def longB : List Nd → Bool
  | [] => false
  | x :: r => decide ((1000 : Int) < x.v.s.size) || longB r
theorem longB_drop (e : List Nd) (k : Nat) (x : Nd) (h : e[k]? = some x) : longB (e.drop k) = (decide ((1000 : Int) < x.v.s.size) || longB (e.drop (k + 1))) := by
  have hlt : k < e.length := (List.getElem?_eq_some_iff.1 h).1
  have hv : e[k] = x := (List.getElem?_eq_some_iff.1 h).2
  rw [List.drop_eq_getElem_cons hlt, hv, longB]
theorem longB_all : ∀ (e : List Nd), longB e = false → ∀ x ∈ e, x.v.s.size ≤ 1000
  | [], _, x, hx => by cases hx
  | y :: r, h, x, hx => by
    simp only [longB, Bool.or_eq_false_iff, decide_eq_false_iff_not] at h
    rcases List.mem_cons.1 hx with rfl | hx
    · omega
    · exact longB_all r h.2 x hx
def bigB (e : List Nd) : Bool := longB e || decide ((120 : Int) < e.length)
set_option maxHeartbeats 4000000 in
theorem big_c (A : Option Addr) (n c : Nat) (e : List Nd) (w : World) (hn : e.length = n) (hmax : n ≤ maxLen) (hs : SlN w A e) (hz : ∀ x ∈ e, x.v.s.size ≤ maxLen) :
    Calls Tryd.prog 8 #[.slice A n c] w fun en w' => en = .returned (.bool (bigB e)) ∧ w' = w := by
  have hm' : n ≤ 9223372036854775807 := hmax
  have Hn := Lib.hid hn
  have Hs := Lib.hid hs
  have Hz := Lib.hid hz
  obtain ⟨R, hR⟩ : ∃ R, bigB e = R := ⟨_, rfl⟩
  rw [hR]
  have HR := Lib.hid hR
  clear hn hs hR hz hmax
  go_enter Tryd.func8, Tryd.ntmps8
  go_wp2_with fail
  go_loopw [3] (fun i wr => ∃ k : Nat, k ≤ n ∧ i = .int .i64 k ∧ wr = w ∧ Hid (longB (e.drop k) = longB e)) (fun i _ => n - (intOf i).toNat)
  case atStart => exact ⟨0, Nat.zero_le _, rfl, rfl, rfl⟩
  case round =>
    obtain ⟨k, hk, rfl, rfl, hinv⟩ := hrel
    by_cases hlt' : k < n
    · obtain ⟨x, hx⟩ : ∃ x, e[k]? = some x := ⟨e[k]'(by rw [Hn.out]; exact hlt'), List.getElem?_eq_getElem _⟩
      rcases Hs.out with h0 | ⟨b, off, rfl, hlt, hc⟩
      · rw [h0] at hx; simp at hx
      obtain ⟨c0, c1, c2, c3, c4⟩ := hc k x hx
      have hsz := Hz.out x (List.mem_of_getElem? hx)
      have hsz' : x.v.s.size ≤ 9223372036854775807 := hsz
      have hstep := longB_drop e k x hx
      rw [hinv.out] at hstep
      clear hc hx hinv c0 c1 c2 c3 hsz
      cases hd : decide ((1000 : Int) < x.v.s.size)
      · rw [hd] at hstep
        have Hst := Lib.hid hstep
        clear hstep
        go_wp2
        go_roundw
        case rel => exact ⟨k + 1, by omega, by go_num, trivial, Lib.hid (by have := Hst.out; simpa using this.symm)⟩
        case measure => simp [intOf]; omega
      · rw [hd] at hstep
        have hRt : R = true := by rw [← HR.out]; unfold bigB; rw [hstep]; rfl
        subst hRt
        clear hstep
        go_wp2
        go_ret
        exact ⟨rfl, rfl⟩
    · have hkn : k = n := by omega
      have hstep := hinv.out
      rw [List.drop_eq_nil_of_le (by rw [Hn.out]; omega)] at hstep
      have hRt : R = decide ((120 : Int) < n) := by rw [← HR.out]; unfold bigB; rw [← hstep, Hn.out]; rfl
      subst hRt
      clear hstep hinv
      go_wp2
      go_ret
      exact ⟨rfl, rfl⟩

/-- Whether each value is null, or of its column's kind. -/
def fitsR : List Val → List Int → Bool
  | [], _ => true
  | _ :: _, [] => true
  | v :: r, k :: s => !(v.k != 0 && v.k != k) && fitsR r s
theorem fitsR_drop (row : List Val) (cols : List Int) (i : Nat) (v : Val) (k : Int) (h : row[i]? = some v) (h' : cols[i]? = some k) : fitsR (row.drop i) (cols.drop i) = (!(v.k != 0 && v.k != k) && fitsR (row.drop (i + 1)) (cols.drop (i + 1))) := by
  have hlt : i < row.length := (List.getElem?_eq_some_iff.1 h).1
  have hv : row[i] = v := (List.getElem?_eq_some_iff.1 h).2
  have hlt' : i < cols.length := (List.getElem?_eq_some_iff.1 h').1
  have hv' : cols[i] = k := (List.getElem?_eq_some_iff.1 h').2
  rw [List.drop_eq_getElem_cons hlt, hv, List.drop_eq_getElem_cons hlt', hv', fitsR]
def fitsB (row : List Val) (cols : List Int) : Bool := row.length == cols.length && fitsR row cols
set_option maxHeartbeats 4000000 in
theorem fits_c (A A2 : Option Addr) (n c m c2 : Nat) (row : List Val) (cols : List Int) (w : World) (hn : row.length = n) (hm : cols.length = m) (hmax : n ≤ maxLen) (hmax2 : m ≤ maxLen) (hs : Sl w A row) (hs2 : SlI w A2 cols) :
    Calls Tryd.prog 9 #[.slice A n c, .slice A2 m c2] w fun en w' => en = .returned (.bool (fitsB row cols)) ∧ Below w.heap.size w w' := by
  have hm' : n ≤ 9223372036854775807 := hmax
  have hm'' : m ≤ 9223372036854775807 := hmax2
  have Hn := Lib.hid hn
  have Hm := Lib.hid hm
  have Hs := Lib.hid hs
  have Hs2 := Lib.hid hs2
  obtain ⟨R, hR⟩ : ∃ R, fitsB row cols = R := ⟨_, rfl⟩
  rw [hR]
  have HR := Lib.hid hR
  by_cases hnm : n = m
  · subst hnm
    clear hn hs hR hm hs2 hmax hmax2 hm''
    go_enter Tryd.func9, Tryd.ntmps9
    go_wp2_with fail
    go_loopw [5] (fun i wr => ∃ k : Nat, k ≤ n ∧ i = .int .i64 k ∧ Hid (Below w.heap.size w wr) ∧ Hid (fitsR (row.drop k) (cols.drop k) = fitsR row cols)) (fun i _ => n - (intOf i).toNat)
    case atStart => exact ⟨0, Nat.zero_le _, rfl, Below.refl _ _, rfl⟩
    case round =>
      obtain ⟨k, hk, rfl, hwr, hinv⟩ := hrel
      by_cases hlt' : k < n
      · obtain ⟨v, hv⟩ : ∃ v, row[k]? = some v := ⟨row[k]'(by rw [Hn.out]; exact hlt'), List.getElem?_eq_getElem _⟩
        obtain ⟨q, hq⟩ : ∃ q, cols[k]? = some q := ⟨cols[k]'(by rw [Hm.out]; exact hlt'), List.getElem?_eq_getElem _⟩
        rcases Hs.out with h0 | ⟨b, off, rfl, hlt, hc⟩
        · rw [h0] at hv; simp at hv
        rcases Hs2.out with h0 | ⟨b2, off2, rfl, hlt2, hc2⟩
        · rw [h0] at hq; simp at hq
        obtain ⟨c0', _, _⟩ := hc k v hv
        have c0 := (hwr.out.cell (p := ⟨b, off + k * 3, none⟩) hlt).trans c0'
        have d0 := (hwr.out.cell (p := ⟨b2, off2 + k, none⟩) hlt2).trans (hc2 k q hq)
        clear c0'
        have hstep := fitsR_drop row cols k v q hv hq
        rw [hinv.out] at hstep
        clear hc hc2 hv hq hinv
        cases h1 : v.k != 0
        · rw [h1] at hstep
          have Hst := Lib.hid hstep
          clear hstep
          go_wp2_with fail
          go_region
          all_goals
            go_wp2
            go_roundw
            case rel => exact ⟨k + 1, by omega, by go_num, Lib.hid ⟨hwr.out.os, hwr.out.tape, hwr.out.output, hwr.out.size, hwr.out.block⟩, Lib.hid (by have := Hst.out; simpa using this.symm)⟩
            case measure => simp [intOf]; omega
        · cases h2 : v.k != q
          · rw [h1, h2] at hstep
            have Hst := Lib.hid hstep
            clear hstep
            go_wp2_with fail
            go_region
            all_goals
              go_wp2
              go_roundw
              case rel => exact ⟨k + 1, by omega, by go_num, Lib.hid ⟨hwr.out.os, hwr.out.tape, hwr.out.output, hwr.out.size, hwr.out.block⟩, Lib.hid (by have := Hst.out; simpa using this.symm)⟩
              case measure => simp [intOf]; omega
          · rw [h1, h2] at hstep
            have hRf : R = false := by rw [← HR.out]; unfold fitsB; rw [hstep]; simp
            subst hRf
            clear hstep
            go_wp2_with fail
            go_region
            all_goals
              go_wp2
              go_ret
              exact ⟨rfl, ⟨hwr.out.os, hwr.out.tape, hwr.out.output, hwr.out.size, hwr.out.block⟩⟩
      · have hkn : k = n := by omega
        have hstep := hinv.out
        rw [List.drop_eq_nil_of_le (by rw [Hn.out]; omega), fitsR] at hstep
        have hRt : R = true := by rw [← HR.out]; unfold fitsB; rw [← hstep, Hn.out, Hm.out]; simp
        subst hRt
        clear hstep hinv
        go_wp2
        go_ret
        exact ⟨rfl, hwr.out⟩
  · have hRf : R = false := by
      rw [← HR.out]; unfold fitsB; rw [Hn.out, Hm.out]
      simp [hnm]
    subst hRf
    have h1 : ((n : Int) != m) = true := by simp; omega
    clear hn hs hR hm hs2 hmax hmax2 HR
    go_enter Tryd.func9, Tryd.ntmps9
    go_wp2
    go_ret
    exact ⟨rfl, Below.refl _ _⟩
end Go.Proofs.YticofedglhfdpaaDoor
