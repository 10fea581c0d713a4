/-
  Whether a row fits columns, of every row and all columns.
-/
import Derived.Test.YtbhliihmipbfjaaDoorRMay
namespace Go.Proofs.YtbhliihmipbfjaaDoor
open Go Go.RowKit
set_option maxRecDepth 100000

/-- Does a value fit a column? -/
def okAt (x : Val) (k : Int) (b : Bool) : Bool := x.k == k || (b && x.k == 0)
def okAll : List Val → List Int → List Bool → Bool
  | x :: xs, k :: ks, b :: bs => okAt x k b && okAll xs ks bs
  | _, _, _ => true
/-- Does a row fit? -/
def fitsR (xs : List Val) (ks : List Int) (bs : List Bool) : Bool := mayR xs && (decide (ks.length = xs.length) && (decide (bs.length = xs.length) && okAll xs ks bs))
theorem okAll_drop (xs : List Val) (ks : List Int) (bs : List Bool) (i : Nat) (x : Val) (k : Int) (b : Bool) (hx : xs[i]? = some x) (hk : ks[i]? = some k) (hb : bs[i]? = some b) :
    okAll (xs.drop i) (ks.drop i) (bs.drop i) = (okAt x k b && okAll (xs.drop (i + 1)) (ks.drop (i + 1)) (bs.drop (i + 1))) := by
  have h1 := List.drop_eq_getElem_cons (List.getElem?_eq_some_iff.1 hx).1
  have h2 := List.drop_eq_getElem_cons (List.getElem?_eq_some_iff.1 hk).1
  have h3 := List.drop_eq_getElem_cons (List.getElem?_eq_some_iff.1 hb).1
  rw [(List.getElem?_eq_some_iff.1 hx).2] at h1
  rw [(List.getElem?_eq_some_iff.1 hk).2] at h2
  rw [(List.getElem?_eq_some_iff.1 hb).2] at h3
  rw [h1, h2, h3, okAll]
set_option maxHeartbeats 2000000 in
theorem fits_c (A B C : Option Addr) (n c m d q e : Nat) (xs : List Val) (ks : List Int) (bs : List Bool) (w : World) (hn : xs.length = n) (hn1 : n ≤ maxLen) (hs : Sl w A xs) (hz : ∀ x ∈ xs, x.s.size ≤ maxLen)
    (hm : ks.length = m) (hm1 : m ≤ maxLen) (hk : SlG w B 1 rdI ks) (hq : bs.length = q) (hq1 : q ≤ maxLen) (hbs : SlG w C 1 rdB bs) :
    Calls Tryd.prog 17 #[.slice A n c, .slice B m d, .slice C q e] w fun en w' => en = .returned (.bool (fitsR xs ks bs)) ∧ Below w.heap.size w w' := by
  obtain ⟨R, hR⟩ : ∃ R, fitsR xs ks bs = R := ⟨_, rfl⟩
  rw [hR]
  unfold fitsR at hR
  have hmay := mayRow_c A n c xs w hn hn1 hs hz
  have Hmay := Lib.hid hmay
  have Hs := Lib.hid hs
  have Hn := Lib.hid hn
  have Hm := Lib.hid hm
  have Hq := Lib.hid hq
  have Hk := Lib.hid hk
  have Hb := Lib.hid hbs
  unfold maxLen at hn1 hm1 hq1
  rw [hn, hm, hq] at hR
  clear hmay hs hz hn hm hk hq hbs
  cases hmR : mayR xs
  · rw [hmR, Bool.false_and] at hR
    subst hR
    go_enter Tryd.func17, Tryd.ntmps17
    go_wp2_with fail
    refine Hmay.out.mono ?_
    rintro en w1 ⟨rfl, hb1⟩
    rw [hmR]
    go_wp2
    go_ret
    exact ⟨rfl, hb1⟩
  rw [hmR, Bool.true_and] at hR
  by_cases h1 : m = n
  case neg =>
    rw [decide_eq_false h1, Bool.false_and] at hR
    subst hR
    go_enter Tryd.func17, Tryd.ntmps17
    go_wp2_with fail
    refine Hmay.out.mono ?_
    rintro en w1 ⟨rfl, hb1⟩
    rw [hmR]
    have h1' : (((m : Int)) != (n : Int)) = true := by simpa using (by omega : ¬ (m : Int) = n)
    go_wp2
    go_ret
    exact ⟨rfl, hb1⟩
  rw [decide_eq_true h1, Bool.true_and] at hR
  subst h1
  by_cases h2 : q = m
  case neg =>
    rw [decide_eq_false h2, Bool.false_and] at hR
    subst hR
    go_enter Tryd.func17, Tryd.ntmps17
    go_wp2_with fail
    refine Hmay.out.mono ?_
    rintro en w1 ⟨rfl, hb1⟩
    rw [hmR]
    have h2' : (((q : Int)) != (m : Int)) = true := by simpa using (by omega : ¬ (q : Int) = m)
    go_wp2
    go_ret
    exact ⟨rfl, hb1⟩
  rw [decide_eq_true h2, Bool.true_and] at hR
  subst h2
  have HR := Lib.hid hR
  clear hR
  go_enter Tryd.func17, Tryd.ntmps17
  go_wp2_with fail
  refine Hmay.out.mono ?_
  rintro en w1 ⟨rfl, hb1⟩
  rw [hmR]
  have Hb1 := Lib.hid hb1
  clear hb1
  go_wp2_with fail
  go_loopw [29] (fun i wr => ∃ k : Nat, k ≤ q ∧ i = .int .i64 k ∧ Hid (Below w.heap.size w wr) ∧ Hid (okAll (xs.drop k) (ks.drop k) (bs.drop k) = R)) (fun i _ => q - (intOf i).toNat)
  case atStart => exact ⟨0, Nat.zero_le _, rfl, Hb1, HR⟩
  case round =>
    obtain ⟨k, hk, rfl, hb, hinv⟩ := hrel
    clear Hb1 HR Hmay
    by_cases hlt : k < q
    · obtain ⟨b, off, x, rfl, hblt, hx, c0, c1, c2⟩ := Hs.out.at3 (by rw [Hn.out]; exact hlt)
      obtain ⟨b', off', y, rfl, hblt', hy, c3⟩ := Hk.out.at1 (by rw [Hm.out]; exact hlt)
      obtain ⟨b'', off'', z, rfl, hblt'', hz, c4⟩ := Hb.out.at1 (by rw [Hq.out]; exact hlt)
      have d0 := (hb.out.cell (p := ⟨b, off + k * 3, none⟩) hblt).trans c0
      have d1 := (hb.out.cell (p := ⟨b, off + k * 3 + 1, none⟩) hblt).trans c1
      have d2 := (hb.out.cell (p := ⟨b, off + k * 3 + 2, none⟩) hblt).trans c2
      have d3 := (hb.out.cell (p := ⟨b', off' + k, none⟩) hblt').trans (c3 _ rfl)
      have d4 := (hb.out.cell (p := ⟨b'', off'' + k, none⟩) hblt'').trans (c4 _ rfl)
      have l0 : b < wr.heap.size := Nat.lt_of_lt_of_le hblt hb.out.size
      have l1 : b' < wr.heap.size := Nat.lt_of_lt_of_le hblt' hb.out.size
      have l2 : b'' < wr.heap.size := Nat.lt_of_lt_of_le hblt'' hb.out.size
      have Hst := Lib.hid ((okAll_drop xs ks bs k x y z hx hy hz).symm.trans hinv.out)
      have Hb2 := Lib.hid (hb.out.alloc hb.out.size (.cells #[.int .i64 x.k, .int .i64 x.n, .string x.s] 45))
      clear hinv hx hy hz c0 c1 c2 c3 c4 hblt hblt' hblt'' hb
      obtain ⟨kx, nx, sx⟩ := x
      simp only [] at d0 d1 d2 Hb2
      unfold okAt at Hst
      simp only [] at Hst
      have step : ∀ r : Bool, ((kx == y) || (z && kx == 0)) = r → Hid ((r && okAll (xs.drop (k + 1)) (ks.drop (k + 1)) (bs.drop (k + 1))) = R) := fun r hr => Lib.hid (by rw [← hr]; exact Hst.out)
      clear Hst
      cases hkk : kx == y
      · have hkk' : (kx != y) = true := by rw [bne, hkk]; rfl
        cases z
        · have Hst' : Hid (false = R) := by have := (step false (by rw [hkk]; rfl)).out; rwa [Bool.false_and] at this
          clear step
          go_wp2_with fail
          go_region
          go_wp2
          go_ret
          exact ⟨congrArg (fun z => Ending.returned (Value.bool z)) Hst'.out, Hb2.out.drew⟩
        · cases h0 : kx == 0
          · have Hst' : Hid (false = R) := by have := (step false (by rw [hkk, h0]; rfl)).out; rwa [Bool.false_and] at this
            clear step
            go_wp2_with fail
            go_region
            go_wp2
            go_ret
            exact ⟨congrArg (fun z => Ending.returned (Value.bool z)) Hst'.out, Hb2.out.drew⟩
          · have Hst' : Hid (okAll (xs.drop (k + 1)) (ks.drop (k + 1)) (bs.drop (k + 1)) = R) := by have := (step true (by rw [hkk, h0]; rfl)).out; rwa [Bool.true_and] at this
            clear step
            go_wp2_with fail
            go_region
            go_wp2
            go_roundw
            case rel => exact ⟨k + 1, by omega, by go_num, Lib.hid Hb2.out.drew, Hst'⟩
            case measure => simp [intOf]; omega
      · have Hst' : Hid (okAll (xs.drop (k + 1)) (ks.drop (k + 1)) (bs.drop (k + 1)) = R) := by have := (step true (by rw [hkk]; rfl)).out; rwa [Bool.true_and] at this
        have hkk' : (kx != y) = false := by rw [bne, hkk]; rfl
        clear step
        cases z
        · go_wp2_with fail
          go_region
          go_wp2
          go_roundw
          case rel => exact ⟨k + 1, by omega, by go_num, Lib.hid Hb2.out.drew, Hst'⟩
          case measure => simp [intOf]; omega
        · cases h0 : kx == 0
          · go_wp2_with fail
            go_region
            go_wp2
            go_roundw
            case rel => exact ⟨k + 1, by omega, by go_num, Lib.hid Hb2.out.drew, Hst'⟩
            case measure => simp [intOf]; omega
          · go_wp2_with fail
            go_region
            go_wp2
            go_roundw
            case rel => exact ⟨k + 1, by omega, by go_num, Lib.hid Hb2.out.drew, Hst'⟩
            case measure => simp [intOf]; omega
    · obtain rfl : k = q := by omega
      have Hst' : Hid (true = R) := by
        have := hinv.out
        rw [show xs.drop k = [] from List.drop_eq_nil_of_le (by rw [Hn.out]; omega)] at this
        rw [← this]
        rfl
      clear hinv
      go_wp2
      go_ret
      exact ⟨congrArg (fun z => Ending.returned (Value.bool z)) Hst'.out, hb.out⟩
end Go.Proofs.YtbhliihmipbfjaaDoor
