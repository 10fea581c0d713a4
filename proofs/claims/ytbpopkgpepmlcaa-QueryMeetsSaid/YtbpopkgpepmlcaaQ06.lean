/-
  Part 6 of 6 of what the proof leans on: each part below says what it proves, and of what; no condition besides.
-/
import Derived.Test.YtbpopkgpepmlcaaQ05
import Derived.Deep.RegionHeld3
import Derived.Test.YtbpopkgpepmlcaaRows
import Derived.ProofKit
import Derived.OpenShut
import Derived.Deep.DeepHandedRow
import Derived.Lib.LaidTab
import Derived.Lib.LaidU8
import Derived.Lib.SmallJoins
import Derived.Deep.Slices
import Derived.Deep.Fields
import Derived.ChangeSame
import Derived.ChangeMaps5
import Derived.Lay
import Derived.Below
set_option linter.unusedVariables false
set_option linter.unusedSimpArgs false
namespace Go.Proofs.Ytbpopkgpepmlcaa
open Go Go.RowKit
set_option maxRecDepth 100000
attribute [local go_sem ↓] Go.wp_at_zero Go.wp_at_succ
attribute [local go_sem ↓] run_fieldK run_neV
theorem drop3 {w : World} {b off : Nat} {xs : List Val} (h : Sl w (some ⟨b, off, none⟩) xs) : Sl w (some ⟨b, off + 6, none⟩) (xs.drop 2) := by
 rcases h with h | ⟨b', off', hA, hlt, h⟩
 · exact .inl (by rw [h]; rfl)
 · cases hA
   refine .inr ⟨b, off + 6, rfl, hlt, fun i x hx => ?_⟩
   rw [List.getElem?_drop] at hx
   have := h (2 + i) x hx
   rw [show off + (2 + i) * 3 = off + 6 + i * 3 by omega] at this
   exact this
theorem look_low1 {b : Bg} (h : Bd 1000 b) (r : List Val) : -1000 ≤ lookB b r ∧ lookB b r ≤ 1000 := look_low 1000 (by decide) b r (fun x hx => h x hx)
theorem mul_low {a b : Int} (ha : -1000 ≤ a ∧ a ≤ 1000) (hb : -1000 ≤ b ∧ b ≤ 1000) : -1000000 ≤ a * b ∧ a * b ≤ 1000000 := by
 have h : (a * b).natAbs ≤ 1000 * 1000 := by
  rw [Int.natAbs_mul]
  exact Nat.mul_le_mul (by omega) (by omega)
 omega
theorem meets_ok {i j : Int} {a b : Bg} (ha : mayBag a = true) (hb : mayBag b = true) (la : Bd 1000 a) (lb : Bd 1000 b) (na : a.length ≤ 60) (nb : b.length ≤ 60) (ra : ∀ x ∈ a, x.1.length = 2) (rb : ∀ x ∈ b, x.1.length = 2) : prodOk i j a b = true := by
 unfold prodOk
 rw [Bool.and_eq_true, Bool.and_eq_true, decide_eq_true_eq]
 refine ⟨?_, ?_, ?_⟩
 · have h1 := pairs_le i j a b
   have h2 : a.length * b.length ≤ 60 * 60 := Nat.mul_le_mul na nb
   omega
 · rw [List.all_eq_true]
   intro x hx
   rw [List.all_eq_true]
   intro y hy
   have h1 := mul_low (la x hx) (lb y hy)
   have h2 : (x.1 ++ y.1).length ≤ 40 := by rw [List.length_append, ra x hx, rb y hy]; decide
   rw [decide_eq_true h2]
   unfold fitQ
   rw [decide_eq_true (by omega), decide_eq_true (by omega)]
   simp
 · refine may_of (prod_asc i j a b) fun r hr => ?_
   obtain ⟨x, hx, y, hy, e, hm⟩ := prod_mem i j hr
   have h1 := look_mem _ r (prod_asc i j a b) hr
   rw [e, look_prod_two i j (may_asc ha) (may_asc hb) 2 ra (ra x hx), hm, if_pos rfl, look_mem a x (may_asc ha) hx, look_mem b y (may_asc hb) hy] at h1
   have h2 := mul_low (la x hx) (lb y hy)
   have h3 := okC_parts (may_okC ha x hx)
   have h4 := okC_parts (may_okC hb y hy)
   refine okC_of (prod_nz i j a b r hr) (by omega) (by omega) ?_
   rw [e, mayR_iff_len h3.2.2.2 h4.2.2.2, List.length_append, ra x hx, rb y hy]
   rfl
theorem meets_row {i j : Int} {a b : Bg} (ha : mayBag a = true) (hb : mayBag b = true) (ra : ∀ x ∈ a, x.1.length = 2) (rb : ∀ x ∈ b, x.1.length = 2) {r : List Val × Int} (hr : r ∈ prodB i j a b) :
 r.1.length = 4 ∧ atR (r.1.take 2) i = atR (r.1.drop 2) j ∧ (atR (r.1.take 2) i).k ≠ 0 ∧ r.2 = getB a (r.1.take 2) * getB b (r.1.drop 2) := by
 obtain ⟨x, hx, y, hy, e, hm⟩ := prod_mem i j hr
 have h1 := look_mem _ r (prod_asc i j a b) hr
 rw [e, look_prod_two i j (may_asc ha) (may_asc hb) 2 ra (ra x hx), hm, if_pos rfl] at h1
 have t1 : r.1.take 2 = x.1 := by rw [e, List.take_append_of_le_length (by rw [ra x hx]; exact Nat.le_refl _), List.take_of_length_le (by rw [ra x hx]; exact Nat.le_refl _)]
 have t2 : r.1.drop 2 = y.1 := by rw [e, List.drop_append_of_le_length (by rw [ra x hx]; exact Nat.le_refl _), List.drop_eq_nil_of_le (by rw [ra x hx]; exact Nat.le_refl _)]; rfl
 obtain ⟨m1, m2⟩ := meet_parts hm
 refine ⟨by rw [e, List.length_append, ra x hx, rb y hy], by rw [t1, t2]; exact m1, by rw [t1]; exact m2, ?_⟩
 rw [t1, t2, ← h1]
 unfold getB
 rw [if_pos ha, if_pos hb]
theorem prod_len {i j : Int} {a b : Bg} : (prodB i j a b).length ≤ (pairL i j a b).length := by
 rw [← plus_pairs, ones_plus]
 have := len_both1 (pairL i j a b) []
 simpa using this
set_option maxHeartbeats 16000000 in
theorem meets_w (x : Vq) (A B : Option Addr) (n m c d : Nat) (cs ds : List Ct) (w : World) (hx : Vq.In w x) (hA : BgIn w A n cs) (hB : BgIn w B m ds) :
 Calls Try.prog 4 #[x.w, .slice A n c, .slice B m d] w fun e w' => e = .returned (.bool true) ∧ Below w.heap.size w w' := by
 have HA := Lib.hid hA
 have HB := Lib.hid hB
 clear hA hB
 have HQ0 : Hid (Bq (w.alloc (.cells x.cells 28)) w.heap.size x) := Lib.hid (Bq.new w x)
 have HX := Lib.hid hx
 clear hx
 obtain ⟨nm, fr, wt, o0, o1, eA, en, ec, ee, pA, pn, pc, ps, gr, aA, an, ac⟩ := x
 have Hb : Hid (Below w.heap.size w (w.alloc (.cells #[.string nm, .string fr, .string wt, .int .i64 o0, .int .i64 o1, .slice eA en ec, .slice pA pn pc, .bool gr, .slice aA an ac] 28))) := Lib.hid (below_one _ _)
 have Hl : Hid (w.heap.size < (w.alloc (.cells #[.string nm, .string fr, .string wt, .int .i64 o0, .int .i64 o1, .slice eA en ec, .slice pA pn pc, .bool gr, .slice aA an ac] 28)).heap.size) := Lib.hid (by simp)
 have HQ : Hid (Bq (w.alloc (.cells #[.string nm, .string fr, .string wt, .int .i64 o0, .int .i64 o1, .slice eA en ec, .slice pA pn pc, .bool gr, .slice aA an ac] 28)) w.heap.size (⟨nm, fr, wt, o0, o1, eA, en, ec, ee, pA, pn, pc, ps, gr, aA, an, ac⟩ : Vq)) := HQ0
 clear HQ0
 dsimp only [Vq.w]
 go_enter Try.func4, Try.ntmps4
 go_wp2_with fail
 refine (qfixed_c _).mono ?_
 rintro e w1 ⟨rfl, hb⟩
 replace HQ := Lib.hid (HQ.out.below hb Hl.out)
 replace Hl := Lib.hid (Nat.lt_of_lt_of_le Hl.out hb.size)
 replace Hb := Lib.hid (below_via Hb.out hb)
 clear hb
 go_wp2_with fail
 refine (rlow_c A n c cs _ (HA.out.after Hb.out)).mono ?_
 rintro e w2 ⟨rfl, hb⟩
 replace HQ := Lib.hid (HQ.out.below hb Hl.out)
 replace Hl := Lib.hid (Nat.lt_of_lt_of_le Hl.out hb.size)
 replace Hb := Lib.hid (below_via Hb.out hb)
 clear hb
 cases hsa : lowQ (pl cs)
 · clear hsa
   go_wp2_with fail
   refine (qfixed_c _).mono ?_
   rintro e w3 ⟨rfl, hb⟩
   have HF := Lib.hid (below_via Hb.out hb)
   clear hb Hb
   go_wp2
   go_ret
   exact ⟨rfl, HF.out⟩
 · have Hhsa := Lib.hid hsa
   clear hsa
   go_wp2_with fail
   refine (rlow_c B m d ds _ (HB.out.after Hb.out)).mono ?_
   rintro e w4 ⟨rfl, hb⟩
   replace HQ := Lib.hid (HQ.out.below hb Hl.out)
   replace Hl := Lib.hid (Nat.lt_of_lt_of_le Hl.out hb.size)
   replace Hb := Lib.hid (below_via Hb.out hb)
   clear hb
   cases hsb : lowQ (pl ds)
   · clear hsb
     go_wp2_with fail
     refine (qfixed_c _).mono ?_
     rintro e w5 ⟨rfl, hb⟩
     have HF := Lib.hid (below_via Hb.out hb)
     clear hb Hb
     go_wp2
     go_ret
     exact ⟨rfl, HF.out⟩
   · have Hhsb := Lib.hid hsb
     clear hsb
     have hna : n ≤ 60 := by have := (lowG_bd Hhsa.out).2; rw [pl_len, HA.out.len] at this; exact this
     have hnb : m ≤ 60 := by have := (lowG_bd Hhsb.out).2; rw [pl_len, HB.out.len] at this; exact this
     have Hbda := Lib.hid (lowG_bd Hhsa.out).1
     have Hbdb := Lib.hid (lowG_bd Hhsb.out).1
     have q2 := HQ.out.wth
     try simp only at q2
     have lq := Hl.out
     cases he : wt.toList.isEmpty
     case true =>
      go_wp2_with fail
      refine (qfixed_c _).mono ?_
      rintro e w6 ⟨rfl, hb⟩
      have HF := Lib.hid (below_via Hb.out hb)
      clear hb Hb
      go_wp2
      go_ret
      exact ⟨rfl, HF.out⟩
     case false =>
      go_wp2_with fail
      refine (rmayBag_c A n c cs _ (HA.out.after Hb.out)).mono ?_
      rintro e w7 ⟨rfl, hb⟩
      replace HQ := Lib.hid (HQ.out.below hb Hl.out)
      replace Hl := Lib.hid (Nat.lt_of_lt_of_le Hl.out hb.size)
      replace Hb := Lib.hid (below_via Hb.out hb)
      clear hb
      cases hma : mayBag (pl cs)
      · clear hma
        go_wp2_with fail
        refine (qfixed_c _).mono ?_
        rintro e w8 ⟨rfl, hb⟩
        have HF := Lib.hid (below_via Hb.out hb)
        clear hb Hb
        go_wp2
        go_ret
        exact ⟨rfl, HF.out⟩
      · have Hhma := Lib.hid hma
        clear hma
        go_wp2_with fail
        refine (rmayBag_c B m d ds _ (HB.out.after Hb.out)).mono ?_
        rintro e w9 ⟨rfl, hb⟩
        replace HQ := Lib.hid (HQ.out.below hb Hl.out)
        replace Hl := Lib.hid (Nat.lt_of_lt_of_le Hl.out hb.size)
        replace Hb := Lib.hid (below_via Hb.out hb)
        clear hb
        cases hmb : mayBag (pl ds)
        · clear hmb
          go_wp2_with fail
          refine (qfixed_c _).mono ?_
          rintro e w10 ⟨rfl, hb⟩
          have HF := Lib.hid (below_via Hb.out hb)
          clear hb Hb
          go_wp2
          go_ret
          exact ⟨rfl, HF.out⟩
        · have Hhmb := Lib.hid hmb
          clear hmb
          obtain ⟨W, hW⟩ : ∃ W : World, w9 = W := ⟨_, rfl⟩
          rw [hW] at HQ Hl Hb ⊢
          clear hW q2 lq
          go_wp2_with fail
          go_loopw [7] (fun q wr => ∃ k : Nat, k ≤ n + m ∧ q = .int .i64 k ∧ Hid (Below W.heap.size W wr) ∧ Hid (∀ x ∈ (pl cs).take k, x.1.length = 2) ∧ Hid (∀ x ∈ (pl ds).take (k - n), x.1.length = 2)) (fun q _ => n + m - (intOf q).toNat)
          case atStart => exact ⟨0, Nat.zero_le _, rfl, Lib.hid (Below.refl _ _), Lib.hid nofun, Lib.hid (by rw [Nat.zero_sub]; nofun)⟩
          case round =>
           obtain ⟨k, hk, rfl, hb, ha2, hb2⟩ := hrel
           have hw0 : IntKind.i64.wrap ((n : Int) + m) = n + m := by rw [IntKind.wrap_i64]; omega
           by_cases hlt : k < n + m
           · have hgo : (k : Int) < (n : Int) + m := by omega
             by_cases hlt1 : k < n
             · obtain ⟨b, off, rfl⟩ := HA.out.sl.some2 (k := k) (by rw [HA.out.len]; exact hlt1)
               obtain ⟨x, hx⟩ : ∃ x, cs[k]? = some x := ⟨_, List.getElem?_eq_getElem (by rw [HA.out.len]; exact hlt1)⟩
               obtain ⟨hblt, c0, c1⟩ := (HA.out.after Hb.out).sl.cell2 hx
               have d0 := (hb.out.cell (p := ⟨b, off + k * 2, none⟩) hblt).trans c0
               have l0 : b < wr.heap.size := Nat.lt_of_lt_of_le hblt hb.out.size
               have Hxn : Hid (x.h.xs.length = x.h.n) := Lib.hid (HA.out.each x (List.mem_of_getElem? hx)).hd.len
               have Htk : Hid ((pl cs).take (k + 1) = (pl cs).take k ++ [(x.h.xs, x.N)]) := Lib.hid (by rw [List.take_add_one, pl_at hx]; rfl)
               clear c0 c1 hx
               obtain ⟨⟨xA, xn, xc, xs⟩, N⟩ := x
               have hgo1 : (k : Int) < n := by omega
               by_cases h2 : xn = 2
               · have Ha3 : Hid (∀ y ∈ (pl cs).take (k + 1), y.1.length = 2) := Lib.hid fun y hy => by
                  rw [Htk.out] at hy
                  rcases List.mem_append.1 hy with hy | hy
                  · exact ha2.out y hy
                  · rw [List.mem_singleton] at hy
                    subst hy
                    have h3 : xs.length = xn := Hxn.out
                    show xs.length = 2
                    omega
                 have Hb3 : Hid (∀ x ∈ (pl ds).take (k + 1 - n), x.1.length = 2) := Lib.hid (by rw [show k + 1 - n = k - n by omega]; exact hb2.out)
                 subst h2
                 clear ha2 hb2
                 go_wp2
                 go_roundw
                 case rel => exact ⟨k + 1, by omega, by go_num, hb, Ha3, Hb3⟩
                 case measure => simp [intOf]; omega
               · have HF := Lib.hid (below_via Hb.out hb.out)
                 have h3 : ((xn : Int) != 2) = true := by simp; omega
                 go_wp2
                 go_ret
                 exact ⟨rfl, HF.out⟩
             · obtain ⟨k', hk'⟩ : ∃ k', k = n + k' := ⟨k - n, by omega⟩
               subst hk'
               have hkm : k' < m := by omega
               obtain ⟨b, off, rfl⟩ := HB.out.sl.some2 (k := k') (by rw [HB.out.len]; exact hkm)
               obtain ⟨x, hx⟩ : ∃ x, ds[k']? = some x := ⟨_, List.getElem?_eq_getElem (by rw [HB.out.len]; exact hkm)⟩
               obtain ⟨hblt, c0, c1⟩ := (HB.out.after Hb.out).sl.cell2 hx
               have d0 := (hb.out.cell (p := ⟨b, off + k' * 2, none⟩) hblt).trans c0
               have l0 : b < wr.heap.size := Nat.lt_of_lt_of_le hblt hb.out.size
               have Hxn : Hid (x.h.xs.length = x.h.n) := Lib.hid (HB.out.each x (List.mem_of_getElem? hx)).hd.len
               have Htk : Hid ((pl ds).take (k' + 1) = (pl ds).take k' ++ [(x.h.xs, x.N)]) := Lib.hid (by rw [List.take_add_one, pl_at hx]; rfl)
               clear c0 c1 hx
               obtain ⟨⟨xA, xn, xc, xs⟩, N⟩ := x
               have hge : ¬ (((n + k' : Nat) : Int) < n) := by omega
               have hge2 : (n : Int) ≤ ((n + k' : Nat) : Int) := by omega
               have hsb : IntKind.i64.wrap (((n + k' : Nat) : Int) - n) = (k' : Int) := by rw [IntKind.wrap_i64]; omega
               have hkm2 : (k' : Int) < m := by omega
               have hk0 : (0 : Int) ≤ k' := by omega
               by_cases h2 : xn = 2
               · have Hb3 : Hid (∀ y ∈ (pl ds).take (n + k' + 1 - n), y.1.length = 2) := Lib.hid (by
                  have h9 := hb2.out
                  rw [show n + k' - n = k' by omega] at h9
                  rw [show n + k' + 1 - n = k' + 1 by omega, Htk.out]
                  intro y hy
                  rcases List.mem_append.1 hy with hy | hy
                  · exact h9 y hy
                  · rw [List.mem_singleton] at hy
                    subst hy
                    have h3 : xs.length = xn := Hxn.out
                    show xs.length = 2
                    omega)
                 have Ha3 : Hid (∀ y ∈ (pl cs).take (n + k' + 1), y.1.length = 2) := Lib.hid (by
                  have h9 := ha2.out
                  rw [List.take_of_length_le (by rw [pl_len, HA.out.len]; omega)] at h9 ⊢
                  exact h9)
                 subst h2
                 clear ha2 hb2
                 go_wp2
                 go_roundw
                 case rel => exact ⟨n + k' + 1, by omega, by go_num, hb, Ha3, Hb3⟩
                 case measure => simp [intOf]; omega
               · have HF := Lib.hid (below_via Hb.out hb.out)
                 have h3 : ((xn : Int) != 2) = true := by simp; omega
                 go_wp2
                 go_ret
                 exact ⟨rfl, HF.out⟩
           · obtain rfl : k = n + m := by omega
             have Ha : Hid (∀ x ∈ pl cs, x.1.length = 2) := Lib.hid (by
              have := ha2.out
              rw [show (pl cs).take (n + m) = pl cs from List.take_of_length_le (by rw [pl_len, HA.out.len]; omega)] at this
              exact this)
             have Hbb : Hid (∀ x ∈ pl ds, x.1.length = 2) := Lib.hid (by
              have := hb2.out
              rw [show (pl ds).take (n + m - n) = pl ds from List.take_of_length_le (by rw [pl_len, HB.out.len]; omega)] at this
              exact this)
             have hgo : ¬ (((n + m : Nat) : Int) < (n : Int) + m) := by omega
             have HQw := HQ.out.below hb.out Hl.out
             have Hlw := Lib.hid (Nat.lt_of_lt_of_le Hl.out hb.out.size)
             have Hbw := Lib.hid (below_via Hb.out hb.out)
             have HQw2 := Lib.hid HQw
             obtain ⟨q0, q1, q2, q3, q4, q5, q6, q7, q8⟩ := HQw.all
             try simp only at q0 q1 q2 q3 q4 q5 q6 q7 q8
             have lq := Hlw.out
             clear hb ha2 hb2 HQ Hl Hb HQw
             go_wp2_with fail
             refine (product_c (⟨nm, fr, wt, o0, o1, eA, en, ec, ee, pA, pn, pc, ps, gr, aA, an, ac⟩ : Vq) A B n m c d cs ds wr (HA.out.after Hbw.out) (HB.out.after Hbw.out) (by omega) (by omega)).mono ?_
             rintro e W2 ⟨A2, n2, c2, o2s, er, rfl, hE⟩
             have hsd := hE.said
             have hok := meets_ok (i := o0) (j := o1) Hhma.out Hhmb.out Hbda.out Hbdb.out (by rw [pl_len, HA.out.len]; exact hna) (by rw [pl_len, HB.out.len]; exact hnb) Ha.out Hbb.out
             have hpr : productR wt.toList.isEmpty o0 o1 (pl cs) (pl ds) = some (prodB o0 o1 (pl cs) (pl ds)) := by
              unfold productR
              rw [he, Hhma.out, Hhmb.out, hok]
              rfl
             rw [hpr] at hsd
             obtain ⟨rfl, ho2⟩ := hsd
             have B2 := Lib.hid hE.bag
             have P2 := Lib.hid ho2
             have HQ2 := Lib.hid (HQw2.out.below hE.below Hlw.out)
             have Hl2 := Lib.hid (Nat.lt_of_lt_of_le Hlw.out hE.below.size)
             have Hb2 := Lib.hid (below_via Hbw.out hE.below)
             have hn2 : n2 ≤ 3600 := by
              have h1 := hE.bag.len
              rw [← pl_len, ho2] at h1
              have h3 := prod_len (i := o0) (j := o1) (a := pl cs) (b := pl ds)
              have h4 := pairs_le o0 o1 (pl cs) (pl ds)
              rw [← pairL_len] at h4
              have h5 : (pl cs).length * (pl ds).length ≤ 60 * 60 := Nat.mul_le_mul (by rw [pl_len, HA.out.len]; exact hna) (by rw [pl_len, HB.out.len]; exact hnb)
              omega
             have Hrow : Hid (∀ r ∈ pl o2s, r.1.length = 4 ∧ atR (r.1.take 2) o0 = atR (r.1.drop 2) o1 ∧ (atR (r.1.take 2) o0).k ≠ 0 ∧ r.2 = getB (pl cs) (r.1.take 2) * getB (pl ds) (r.1.drop 2)) := Lib.hid fun r hr => meets_row Hhma.out Hhmb.out Ha.out Hbb.out (by rw [← ho2]; exact hr)
             have Hg1 : Hid (∀ r, -1000 ≤ getB (pl cs) r ∧ getB (pl cs) r ≤ 1000) := Lib.hid fun r => by unfold getB; rw [if_pos Hhma.out]; exact look_low1 Hbda.out r
             have Hg2 : Hid (∀ r, -1000 ≤ getB (pl ds) r ∧ getB (pl ds) r ≤ 1000) := Lib.hid fun r => by unfold getB; rw [if_pos Hhmb.out]; exact look_low1 Hbdb.out r
             clear hE ho2 hpr hok q0 q1 q2 q3 q4 q5 q6 q7 q8 lq HQw2 Hlw Hbw hgo
             go_wp2_with fail
             go_loopw [10] (fun q wr => ∃ k : Nat, k ≤ n2 ∧ q = .int .i64 k ∧ Hid (Below W2.heap.size W2 wr)) (fun q _ => n2 - (intOf q).toNat)
             case atStart => exact ⟨0, Nat.zero_le _, rfl, Lib.hid (Below.refl _ _)⟩
             case round =>
              obtain ⟨k, hk, rfl, hb⟩ := hrel
              by_cases hlt : k < n2
              · obtain ⟨b, off, rfl⟩ := B2.out.sl.some2 (k := k) (by rw [B2.out.len]; exact hlt)
                obtain ⟨x, hx⟩ : ∃ x, o2s[k]? = some x := ⟨_, List.getElem?_eq_getElem (by rw [B2.out.len]; exact hlt)⟩
                obtain ⟨hblt, c0, c1⟩ := B2.out.sl.cell2 hx
                have d0 := (hb.out.cell (p := ⟨b, off + k * 2, none⟩) hblt).trans c0
                have d1 := (hb.out.cell (p := ⟨b, off + k * 2 + 1, none⟩) hblt).trans c1
                have l0 : b < wr.heap.size := Nat.lt_of_lt_of_le hblt hb.out.size
                have Hxr := Lib.hid ((B2.out.each x (List.mem_of_getElem? hx)).after hb.out)
                have Hrw := Lib.hid (Hrow.out _ (pl_mem (List.mem_of_getElem? hx)))
                clear c0 c1 hx
                obtain ⟨⟨xA, xn, xc, xs⟩, N⟩ := x
                have hgo : (k : Int) < n2 := by omega
                have Hxl : Hid (xs.length = 4) := Lib.hid Hrw.out.1
                obtain rfl : xn = 4 := by have h1 : xs.length = xn := Hxr.out.hd.len; have := Hxl.out; omega
                have hroom : 4 ≤ xc := Hxr.out.room
                obtain ⟨xb, xo, rfl⟩ : ∃ xb xo, xA = some ⟨xb, xo, none⟩ := by
                 rcases Hxr.out.hd.sl with h | ⟨xb, xo, h, _⟩
                 · have h1 : xs = [] := h
                   have := Hxl.out
                   rw [h1] at this
                   cases this
                 · exact ⟨xb, xo, h⟩
                try simp only at d0 d1
                go_wp2_with fail
                have q3 := (hb.out.cell (p := ⟨w.heap.size, 3, none⟩) Hl2.out).trans HQ2.out.on.1
                have q4 := (hb.out.cell (p := ⟨w.heap.size, 4, none⟩) Hl2.out).trans HQ2.out.on.2
                try simp only at q3 q4
                have lq : w.heap.size < wr.heap.size := Nat.lt_of_lt_of_le Hl2.out hb.out.size
                obtain ⟨⟨yk, yn, ys⟩, hy⟩ : ∃ y : Val, atR (xs.take 2) o0 = y := ⟨_, rfl⟩
                have Hy1 : Hid (atR (xs.take 2) o0 = ⟨yk, yn, ys⟩) := Lib.hid hy
                have Hy2 : Hid (atR (xs.drop 2) o1 = ⟨yk, yn, ys⟩) := Lib.hid (by rw [← hy]; exact Hrw.out.2.1.symm)
                have hyk : (yk == 0) = false := by have h3 : (atR (xs.take 2) o0).k ≠ 0 := Hrw.out.2.2.1; rw [hy] at h3; simpa using h3
                obtain ⟨G1, hG1⟩ : ∃ G1, getB (pl cs) (xs.take 2) = G1 := ⟨_, rfl⟩
                obtain ⟨G2, hG2⟩ : ∃ G2, getB (pl ds) (xs.drop 2) = G2 := ⟨_, rfl⟩
                have HG1 := Lib.hid hG1
                have HG2 := Lib.hid hG2
                have hNG : N = G1 * G2 := by rw [← hG1, ← hG2]; exact Hrw.out.2.2.2
                have hN0 : (N != G1 * G2) = false := by rw [hNG]; simp
                have hml : -1000000 ≤ G1 * G2 ∧ G1 * G2 ≤ 1000000 := mul_low (by rw [← hG1]; exact Hg1.out _) (by rw [← hG2]; exact Hg2.out _)
                have hw1 : IntKind.i64.wrap (G1 * G2) = G1 * G2 := by rw [IntKind.wrap_i64]; omega
                have Hs1 : Hid (Sl wr (some ⟨xb, xo, none⟩) (xs.take 2)) := Lib.hid (Hxr.out.hd.sl.slG.takeK 2).sl
                have Hs2 : Hid (Sl wr (some ⟨xb, xo + 6, none⟩) (xs.drop 2)) := Lib.hid (drop3 Hxr.out.hd.sl)
                have hself : Val.eq ⟨yk, yn, ys⟩ ⟨yk, yn, ys⟩ = true := Val.eq_self _
                have Ht1 : Hid ((xs.take 2).length = 2) := Lib.hid (by rw [List.length_take, Hxl.out]; rfl)
                have Ht2 : Hid ((xs.drop 2).length = 2) := Lib.hid (by rw [List.length_drop, Hxl.out])
                have hr0 : (4 : Int) ≤ xc := by omega
                have hr1 : (2 : Int) ≤ xc := by omega
                have hr2 : ¬ xc = 2 := by omega
                have HAr := Lib.hid ((HA.out.after Hb2.out).after hb.out)
                have HBr := Lib.hid ((HB.out.after Hb2.out).after hb.out)
                have HC : Hid (Below wr.heap.size wr wr) := Lib.hid (Below.refl _ _)
                have HS : Hid (∀ w' : World, Below wr.heap.size wr w' → w'.cell? ⟨b, off + k * 2 + 1, none⟩ = some (.int .i64 N) ∧ w'.cell? ⟨w.heap.size, 3, none⟩ = some (.int .i64 o0) ∧ w'.cell? ⟨w.heap.size, 4, none⟩ = some (.int .i64 o1)) := Lib.hid fun w' h => ⟨(h.cell l0).trans d1, (h.cell lq).trans q3, (h.cell lq).trans q4⟩
                clear hy hG1 hG2 hNG hml
                go_region_held3 (fun w' => w'.cell? ⟨b, off + k * 2 + 1, none⟩ = some (.int .i64 N) ∧ w'.cell? ⟨w.heap.size, 3, none⟩ = some (.int .i64 o0) ∧ w'.cell? ⟨w.heap.size, 4, none⟩ = some (.int .i64 o1)) (first | exact HS.out _ HC.out | go_keep)
                 (first
                   | (go_at_call 16
                      with_reducible refine (rat_c (some ⟨xb, xo, none⟩) 2 xc (xs.take 2) o0 _ Ht1.out (Hs1.out.after (by first | exact HC.out | exact below_via HC.out (Below.refl _ _).drew))).mono ?_
                      rintro en wx ⟨rfl, hbx⟩
                      replace HC : Hid (Below wr.heap.size wr wx) := Lib.hid (by first | exact below_via HC.out hbx | exact below_via HC.out (below_via (Below.refl _ _).drew hbx))
                      rw [Hy1.out]
                      dsimp only [Val.v]
                      clear hbx)
                   | (go_at_call 16
                      with_reducible refine (rat_c (some ⟨xb, xo + 6, none⟩) 2 (xc - 2) (xs.drop 2) o1 _ Ht2.out (Hs2.out.after (by first | exact HC.out | exact below_via HC.out (Below.refl _ _).drew))).mono ?_
                      rintro en wx ⟨rfl, hbx⟩
                      replace HC : Hid (Below wr.heap.size wr wx) := Lib.hid (by first | exact below_via HC.out hbx | exact below_via HC.out (below_via (Below.refl _ _).drew hbx))
                      rw [Hy2.out]
                      dsimp only [Val.v]
                      clear hbx)
                   | (go_at_call 17
                      with_reducible refine (rgetB_c A n c cs ⟨some ⟨xb, xo, none⟩, 2, xc, xs.take 2⟩ _ (HAr.out.after (by first | exact HC.out | exact below_via HC.out (Below.refl _ _).drew)) ⟨Ht1.out, by show 2 ≤ maxLen; unfold maxLen; omega, Hs1.out.after (by first | exact HC.out | exact below_via HC.out (Below.refl _ _).drew)⟩).mono ?_
                      rintro en wx ⟨rfl, hbx⟩
                      replace HC : Hid (Below wr.heap.size wr wx) := Lib.hid (by first | exact below_via HC.out hbx | exact below_via HC.out (below_via (Below.refl _ _).drew hbx))
                      rw [show getB (pl cs) (⟨some ⟨xb, xo, none⟩, 2, xc, xs.take 2⟩ : Hd).xs = G1 from HG1.out]
                      clear hbx)
                   | (go_at_call 17
                      with_reducible refine (rgetB_c B m d ds ⟨some ⟨xb, xo + 6, none⟩, 2, xc - 2, xs.drop 2⟩ _ (HBr.out.after (by first | exact HC.out | exact below_via HC.out (Below.refl _ _).drew)) ⟨Ht2.out, by show 2 ≤ maxLen; unfold maxLen; omega, Hs2.out.after (by first | exact HC.out | exact below_via HC.out (Below.refl _ _).drew)⟩).mono ?_
                      rintro en wx ⟨rfl, hbx⟩
                      replace HC : Hid (Below wr.heap.size wr wx) := Lib.hid (by first | exact below_via HC.out hbx | exact below_via HC.out (below_via (Below.refl _ _).drew hbx))
                      rw [show getB (pl ds) (⟨some ⟨xb, xo + 6, none⟩, 2, xc - 2, xs.drop 2⟩ : Hd).xs = G2 from HG2.out]
                      clear hbx))
                all_goals
                 have HbF := Lib.hid (hb.out.trans (HC.out.mono hb.out.size))
                 clear hN0 hw1 hyk hself hr0 hr1 hr2 d0 d1 q3 q4
                 go_wp2
                 go_roundw
                 case rel => exact ⟨k + 1, by omega, by go_num, HbF⟩
                 case measure => simp [intOf]; omega
              · obtain rfl : k = n2 := by omega
                have HF := Lib.hid (below_via Hb2.out hb.out)
                go_wp2
                go_ret
                exact ⟨rfl, HF.out⟩
end Go.Proofs.Ytbpopkgpepmlcaa
namespace Go.Proofs.Ytbpopkgpepmlcaa
open Go Go.RowKit
set_option maxRecDepth 100000
attribute [local go_sem ↓] Go.wp_at_zero Go.wp_at_succ
theorem pickP_bd {ps : List Int} {b : Bg} : Bd 1000000000 (pickP ps b) := by
 unfold pickP
 split
 · unfold plusR
   split
   · rename_i h
     rw [Bool.and_eq_true] at h
     intro x hx
     have := okC_parts (may_okC h.2 x hx)
     omega
   · exact fun x hx => by cases hx
 · exact fun x hx => by cases hx
theorem bd_take {P : Int} {b : Bg} (h : Bd P b) (k : Nat) : Bd P (b.take k) := fun x hx => h x (List.mem_of_mem_take hx)
theorem all_take {p : Int → Bool} {l : List Int} {k : Nat} {x : Int} (h : l[k]? = some x) : (l.take (k + 1)).all p = ((l.take k).all p && p x) := by
 rw [List.take_add_one, h, List.all_append]
 simp
set_option maxHeartbeats 16000000 in
theorem picks_w (x : Vq) (A : Option Addr) (n c : Nat) (cs : List Ct) (w : World) (hx : Vq.In w x) (hA : BgIn w A n cs) :
 Calls Try.prog 6 #[x.w, .slice A n c] w fun e w' => e = .returned (.bool true) ∧ Below w.heap.size w w' := by
 have HA := Lib.hid hA
 clear hA
 have HQ0 : Hid (Bq (w.alloc (.cells x.cells 28)) w.heap.size x) := Lib.hid (Bq.new w x)
 have HX := Lib.hid hx
 clear hx
 obtain ⟨nm, fr, wt, o0, o1, eA, en, ec, ee, pA, pn, pc, ps, gr, aA, an, ac⟩ := x
 have Hb : Hid (Below w.heap.size w (w.alloc (.cells #[.string nm, .string fr, .string wt, .int .i64 o0, .int .i64 o1, .slice eA en ec, .slice pA pn pc, .bool gr, .slice aA an ac] 28))) := Lib.hid (below_one _ _)
 have Hl : Hid (w.heap.size < (w.alloc (.cells #[.string nm, .string fr, .string wt, .int .i64 o0, .int .i64 o1, .slice eA en ec, .slice pA pn pc, .bool gr, .slice aA an ac] 28)).heap.size) := Lib.hid (by simp)
 have HQ : Hid (Bq (w.alloc (.cells #[.string nm, .string fr, .string wt, .int .i64 o0, .int .i64 o1, .slice eA en ec, .slice pA pn pc, .bool gr, .slice aA an ac] 28)) w.heap.size (⟨nm, fr, wt, o0, o1, eA, en, ec, ee, pA, pn, pc, ps, gr, aA, an, ac⟩ : Vq)) := HQ0
 clear HQ0
 dsimp only [Vq.w]
 go_enter Try.func6, Try.ntmps6
 go_wp2_with fail
 refine (qfixed_c _).mono ?_
 rintro e w1 ⟨rfl, hb⟩
 replace HQ := Lib.hid (HQ.out.below hb Hl.out)
 replace Hl := Lib.hid (Nat.lt_of_lt_of_le Hl.out hb.size)
 replace Hb := Lib.hid (below_via Hb.out hb)
 clear hb
 go_wp2_with fail
 refine (rlow_c A n c cs _ (HA.out.after Hb.out)).mono ?_
 rintro e w2 ⟨rfl, hb⟩
 replace HQ := Lib.hid (HQ.out.below hb Hl.out)
 replace Hl := Lib.hid (Nat.lt_of_lt_of_le Hl.out hb.size)
 replace Hb := Lib.hid (below_via Hb.out hb)
 clear hb
 cases hsa : lowQ (pl cs)
 · clear hsa
   go_wp2_with fail
   refine (qfixed_c _).mono ?_
   rintro e w3 ⟨rfl, hb⟩
   have HF := Lib.hid (below_via Hb.out hb)
   clear hb Hb
   go_wp2
   go_ret
   exact ⟨rfl, HF.out⟩
 · have Hhsa := Lib.hid hsa
   clear hsa
   go_wp2_with fail
   refine (rmayBag_c A n c cs _ (HA.out.after Hb.out)).mono ?_
   rintro e w4 ⟨rfl, hb⟩
   replace HQ := Lib.hid (HQ.out.below hb Hl.out)
   replace Hl := Lib.hid (Nat.lt_of_lt_of_le Hl.out hb.size)
   replace Hb := Lib.hid (below_via Hb.out hb)
   clear hb
   cases hma : mayBag (pl cs)
   · clear hma
     go_wp2_with fail
     refine (qfixed_c _).mono ?_
     rintro e w5 ⟨rfl, hb⟩
     have HF := Lib.hid (below_via Hb.out hb)
     clear hb Hb
     go_wp2
     go_ret
     exact ⟨rfl, HF.out⟩
   · have Hhma := Lib.hid hma
     clear hma
     have hna : n ≤ 60 := by have := (lowG_bd Hhsa.out).2; rw [pl_len, HA.out.len] at this; exact this
     have Hbd := Lib.hid (lowG_bd Hhsa.out).1
     have q6 := HQ.out.pick
     try simp only at q6
     have lq := Hl.out
     have Hpl : Hid (ps.length = pn) := Lib.hid HX.out.plen
     have hpm : pn ≤ maxLen := HX.out.pmax
     unfold maxLen at hpm
     by_cases h40 : (40 : Int) < pn
     case pos =>
      go_wp2_with fail
      refine (qfixed_c _).mono ?_
      rintro e w6 ⟨rfl, hb⟩
      have HF := Lib.hid (below_via Hb.out hb)
      clear hb Hb
      go_wp2
      go_ret
      exact ⟨rfl, HF.out⟩
     case neg =>
      clear q6 lq
      obtain ⟨W, hW⟩ : ∃ W : World, w4 = W := ⟨_, rfl⟩
      rw [hW] at HQ Hl Hb ⊢
      clear hW
      have hp40 : pn ≤ 40 := by omega
      have h41 : (pn : Int) ≤ 40 := by omega
      have q6 := HQ.out.pick
      try simp only at q6
      have lq := Hl.out
      go_wp2_with fail
      clear q6 lq
      go_loopw [5, 7] (fun v q wr => ∃ (k : Nat) (s : Int), k ≤ n ∧ q = .int .i64 k ∧ v = .int .i64 s ∧ Hid (Below W.heap.size W wr) ∧ Hid (s = tot ((pl cs).take k)) ∧ Hid (∀ x ∈ (pl cs).take k, x.1.length = 2)) (fun _ q _ => n - (intOf q).toNat)
      case atStart => exact ⟨0, 0, Nat.zero_le _, rfl, rfl, Lib.hid (Below.refl _ _), Lib.hid rfl, Lib.hid nofun⟩
      case round =>
       obtain ⟨k, s, hk, rfl, rfl, hb, hs, hall⟩ := hrel
       by_cases hlt : k < n
       · obtain ⟨b, off, rfl⟩ := HA.out.sl.some2 (k := k) (by rw [HA.out.len]; exact hlt)
         obtain ⟨x, hx⟩ : ∃ x, cs[k]? = some x := ⟨_, List.getElem?_eq_getElem (by rw [HA.out.len]; exact hlt)⟩
         obtain ⟨hblt, c0, c1⟩ := (HA.out.after Hb.out).sl.cell2 hx
         have d0 := (hb.out.cell (p := ⟨b, off + k * 2, none⟩) hblt).trans c0
         have d1 := (hb.out.cell (p := ⟨b, off + k * 2 + 1, none⟩) hblt).trans c1
         have l0 : b < wr.heap.size := Nat.lt_of_lt_of_le hblt hb.out.size
         have Hxn : Hid (x.h.xs.length = x.h.n) := Lib.hid (HA.out.each x (List.mem_of_getElem? hx)).hd.len
         have Htt := Lib.hid (tot_take (pl_at hx))
         have Htk : Hid ((pl cs).take (k + 1) = (pl cs).take k ++ [(x.h.xs, x.N)]) := Lib.hid (by rw [List.take_add_one, pl_at hx]; rfl)
         have HN : Hid (-1000 ≤ x.N ∧ x.N ≤ 1000) := Lib.hid (Hbd.out _ (pl_mem (List.mem_of_getElem? hx)))
         have hs64 := tot_bd 1000 (by decide) _ (bd_take Hbd.out k)
         have hlk : ((pl cs).take k).length ≤ 60 := by rw [List.length_take]; omega
         rw [← hs.out] at hs64
         clear c0 c1 hx
         obtain ⟨⟨xA, xn, xc, xs⟩, N⟩ := x
         have hgo : (k : Int) < n := by omega
         have hNb : -1000 ≤ N ∧ N ≤ 1000 := HN.out
         have hw : IntKind.i64.wrap (s + N) = s + N := by rw [IntKind.wrap_i64]; omega
         clear hs64 hNb hlk
         by_cases h2 : xn = 2
         · have Hall2 : Hid (∀ y ∈ (pl cs).take (k + 1), y.1.length = 2) := Lib.hid fun y hy => by
            rw [Htk.out] at hy
            rcases List.mem_append.1 hy with hy | hy
            · exact hall.out y hy
            · rw [List.mem_singleton] at hy
              subst hy
              have h3 : xs.length = xn := Hxn.out
              show xs.length = 2
              omega
           have Hs2 : Hid (s + N = tot ((pl cs).take (k + 1))) := Lib.hid (by rw [Htt.out, ← hs.out])
           subst h2
           clear hs hall
           go_wp2
           go_roundw
           case rel => exact ⟨k + 1, _, by omega, by go_num, rfl, hb, Hs2, Hall2⟩
           case measure => simp [intOf]; omega
         · have HF := Lib.hid (below_via Hb.out hb.out)
           have h3 : ((xn : Int) != 2) = true := by simp; omega
           go_wp2
           go_ret
           exact ⟨rfl, HF.out⟩
       · obtain rfl : k = n := by omega
         have Hall : Hid (∀ x ∈ pl cs, x.1.length = 2) := Lib.hid (by
          have := hall.out
          rw [show (pl cs).take k = pl cs from List.take_of_length_le (by rw [pl_len, HA.out.len]; exact Nat.le_refl _)] at this
          exact this)
         have Hs : Hid (s = tot (pl cs)) := Lib.hid (by
          have := hs.out
          rw [show (pl cs).take k = pl cs from List.take_of_length_le (by rw [pl_len, HA.out.len]; exact Nat.le_refl _)] at this
          exact this)
         have HQw := HQ.out.below hb.out Hl.out
         have Hlw := Lib.hid (Nat.lt_of_lt_of_le Hl.out hb.out.size)
         have Hbw := Lib.hid (below_via Hb.out hb.out)
         have HQw2 := Lib.hid HQw
         obtain ⟨q0, q1, q2, q3, q4, q5, q6, q7, q8⟩ := HQw.all
         try simp only at q0 q1 q2 q3 q4 q5 q6 q7 q8
         have lq := Hlw.out
         clear hb hs hall HQ Hl Hb HQw
         go_wp2_with fail
         refine (qpick_c (⟨nm, fr, wt, o0, o1, eA, en, ec, ee, pA, pn, pc, ps, gr, aA, an, ac⟩ : Vq) A k c cs wr (HX.out.after Hbw.out) (HA.out.after Hbw.out) (by omega)).mono ?_
         rintro e W2 ⟨A2, n2, c2, o2s, rfl, hb2, hB2, hp2⟩
         have hp2' : pl o2s = pickP ps (pl cs) := hp2
         have HQ2 := Lib.hid (HQw2.out.below hb2 Hlw.out)
         have Hl2 := Lib.hid (Nat.lt_of_lt_of_le Hlw.out hb2.size)
         have Hbx := Lib.hid (below_via Hbw.out hb2)
         have B2 := Lib.hid hB2
         have P2 := Lib.hid hp2'
         have hn2 : n2 ≤ 60 := by
          have h1 := hB2.len
          rw [← pl_len, hp2'] at h1
          have h3 : (pickP ps (pl cs)).length ≤ 60 := picks_len (by rw [pl_len, HA.out.len]; exact hna)
          omega
         clear hb2 hB2 hp2 hp2' q0 q1 q2 q3 q4 q5 q6 q7 q8 lq HQw2 Hlw Hbw
         go_wp2_with fail
         go_loopw [6, 9] (fun v q wr => ∃ (j : Nat) (t : Int), j ≤ n2 ∧ q = .int .i64 j ∧ v = .int .i64 t ∧ Hid (Below W2.heap.size W2 wr) ∧ Hid (t = tot ((pl o2s).take j))) (fun _ q _ => n2 - (intOf q).toNat)
         case atStart => exact ⟨0, 0, Nat.zero_le _, rfl, rfl, Lib.hid (Below.refl _ _), Lib.hid rfl⟩
         case round =>
          obtain ⟨j, t, hj, rfl, rfl, hb, ht⟩ := hrel
          by_cases hlt2 : j < n2
          · obtain ⟨b, off, rfl⟩ := B2.out.sl.some2 (k := j) (by rw [B2.out.len]; exact hlt2)
            obtain ⟨x, hx⟩ : ∃ x, o2s[j]? = some x := ⟨_, List.getElem?_eq_getElem (by rw [B2.out.len]; exact hlt2)⟩
            obtain ⟨hblt, c0, c1⟩ := B2.out.sl.cell2 hx
            have d1 := (hb.out.cell (p := ⟨b, off + j * 2 + 1, none⟩) hblt).trans c1
            have l0 : b < wr.heap.size := Nat.lt_of_lt_of_le hblt hb.out.size
            have Htt := Lib.hid (tot_take (pl_at hx))
            have HN : Hid (-1000000000 ≤ x.N ∧ x.N ≤ 1000000000) := Lib.hid ((by rw [P2.out]; exact pickP_bd : Bd 1000000000 (pl o2s)) _ (pl_mem (List.mem_of_getElem? hx)))
            have hs64 := tot_bd 1000000000 (by decide) _ (bd_take (by rw [P2.out]; exact pickP_bd : Bd 1000000000 (pl o2s)) j)
            have hlk : ((pl o2s).take j).length ≤ 60 := by rw [List.length_take]; omega
            rw [← ht.out] at hs64
            clear c0 c1 hx
            obtain ⟨⟨xA, xn, xc, xs⟩, N⟩ := x
            have hgo2 : (j : Int) < n2 := by omega
            have hNb : -1000000000 ≤ N ∧ N ≤ 1000000000 := HN.out
            have hw : IntKind.i64.wrap (t + N) = t + N := by rw [IntKind.wrap_i64]; omega
            have Ht2 : Hid (t + N = tot ((pl o2s).take (j + 1))) := Lib.hid (by rw [Htt.out, ← ht.out])
            clear hs64 hNb hlk ht
            go_wp2
            go_roundw
            case rel => exact ⟨j + 1, _, by omega, by go_num, rfl, hb, Ht2⟩
            case measure => simp [intOf]; omega
          · obtain rfl : j = n2 := by omega
            have Ht : Hid (t = tot (pickP ps (pl cs))) := Lib.hid (by
             have := ht.out
             rw [show (pl o2s).take j = pl o2s from List.take_of_length_le (by rw [pl_len, B2.out.len]; exact Nat.le_refl _), P2.out] at this
             exact this)
            have HQy := Lib.hid (HQ2.out.below hb.out Hl2.out)
            have Hly := Lib.hid (Nat.lt_of_lt_of_le Hl2.out hb.out.size)
            have Hby := Lib.hid (below_via Hbx.out hb.out)
            have B2y := Lib.hid (B2.out.after hb.out)
            obtain ⟨W3, hW3⟩ : ∃ W3 : World, wr = W3 := ⟨_, rfl⟩
            rw [hW3] at HQy Hly Hby B2y ⊢
            clear hb ht HQ2 Hl2 Hbx B2 hW3
            go_wp2_with fail
            have HXy := Lib.hid (HX.out.after Hby.out)
            go_loopw [10, 11] (fun v q wr => ∃ (i : Nat) (ok : Bool), i ≤ pn ∧ q = .int .i64 i ∧ v = .bool ok ∧ Hid (Below W3.heap.size W3 wr) ∧ Hid (ok = (ps.take i).all fun p => p == 0 || p == 1)) (fun _ q _ => pn - (intOf q).toNat)
            case atStart => exact ⟨0, true, Nat.zero_le _, rfl, rfl, Lib.hid (Below.refl _ _), Lib.hid rfl⟩
            case round =>
             obtain ⟨i, ok, hi, rfl, rfl, hb, hok⟩ := hrel
             have q6 := (hb.out.cell (p := ⟨w.heap.size, 6, none⟩) Hly.out).trans HQy.out.pick
             try simp only at q6
             have lq : w.heap.size < wr.heap.size := Nat.lt_of_lt_of_le Hly.out hb.out.size
             by_cases hlt3 : i < pn
             · obtain ⟨b, off, y, rfl, hblt, hy, c0⟩ := SlG.at1 (w := W3) (rd := rdI) HXy.out.psl (k := i) (by rw [Hpl.out]; exact hlt3)
               have d0 := (hb.out.cell (p := ⟨b, off + i, none⟩) hblt).trans (c0 _ rfl)
               have l0 : b < wr.heap.size := Nat.lt_of_lt_of_le hblt hb.out.size
               have Hat := Lib.hid (all_take (p := fun p : Int => p == 0 || p == 1) hy)
               have hgo3 : (i : Int) < pn := by omega
               clear c0 hy
               cases ok
               · have Hok2 : Hid (false = (ps.take (i + 1)).all fun p => p == 0 || p == 1) := Lib.hid (by rw [Hat.out, ← hok.out]; rfl)
                 clear hok
                 go_wp2
                 go_roundw
                 case rel => exact ⟨i + 1, _, by omega, by go_num, rfl, hb, Hok2⟩
                 case measure => simp [intOf]; omega
               · cases h0 : (y == 0)
                 · cases h1 : (y == 1)
                   · have Hok2 : Hid (false = (ps.take (i + 1)).all fun p => p == 0 || p == 1) := Lib.hid (by rw [Hat.out, ← hok.out, h0, h1]; rfl)
                     clear hok
                     go_wp2
                     go_roundw
                     case rel => exact ⟨i + 1, _, by omega, by go_num, rfl, hb, Hok2⟩
                     case measure => simp [intOf]; omega
                   · have Hok2 : Hid (true = (ps.take (i + 1)).all fun p => p == 0 || p == 1) := Lib.hid (by rw [Hat.out, ← hok.out, h0, h1]; rfl)
                     clear hok
                     go_wp2
                     go_roundw
                     case rel => exact ⟨i + 1, _, by omega, by go_num, rfl, hb, Hok2⟩
                     case measure => simp [intOf]; omega
                 · have Hok2 : Hid (true = (ps.take (i + 1)).all fun p => p == 0 || p == 1) := Lib.hid (by rw [Hat.out, ← hok.out, h0]; rfl)
                   clear hok
                   go_wp2
                   go_roundw
                   case rel => exact ⟨i + 1, _, by omega, by go_num, rfl, hb, Hok2⟩
                   case measure => simp [intOf]; omega
             · obtain rfl : i = pn := by omega
               have Hok : Hid (ok = ps.all fun p => p == 0 || p == 1) := Lib.hid (by
                have := hok.out
                rw [show ps.take i = ps from List.take_of_length_le (by rw [Hpl.out]; exact Nat.le_refl _)] at this
                exact this)
               have Hbz := Lib.hid (below_via Hby.out hb.out)
               clear hok hb
               cases ok
               · have HN : Hid (j = 0) := Lib.hid (by
                  have h1 := B2y.out.len
                  rw [← pl_len, P2.out, picks_bad Hall.out Hok.out.symm] at h1
                  exact h1.symm)
                 obtain rfl : j = 0 := HN.out
                 have HF := Lib.hid Hbz.out
                 go_wp2
                 go_ret
                 exact ⟨rfl, HF.out⟩
               · have Hst : Hid (s = t) := Lib.hid (by
                  rw [Hs.out, Ht.out]
                  exact (picks_tot Hhma.out (by rw [Hpl.out]; exact hp40) Hbd.out (by rw [pl_len, HA.out.len]; exact hna) Hall.out Hok.out.symm).symm)
                 obtain rfl : s = t := Hst.out
                 go_wp2_with fail
                 refine (qpick_c (⟨emp, emp, emp, 0, 0, none, 0, 0, [], some ⟨wr.heap.size, 0, none⟩, 2, 2, [0, 1], false, none, 0, 0⟩ : Vq) A k c cs (wr.alloc (.cells #[.int .i64 0, .int .i64 1] 3)) ⟨rfl, Nat.zero_le _, .inl rfl, nofun, rfl, by show 2 ≤ maxLen; unfold maxLen; omega, SlG.new (rd := rdI) (fun _ => rfl) [0, 1] rfl⟩ (HA.out.after (below_via Hbz.out (below_one _ _))) (by omega)).mono ?_
                 rintro e W5 ⟨A5, n5, c5, o5s, rfl, hb5, hB5, hp5⟩
                 have hp5' : pl o5s = pl cs := hp5.trans (picks_01 Hhma.out Hbd.out (by rw [pl_len, HA.out.len]; exact hna) Hall.out)
                 have B5 := Lib.hid hB5
                 have P5 := Lib.hid hp5'
                 have Hbv := Lib.hid (below_via (below_via Hbz.out (below_one _ _)) hb5)
                 clear hb5 hB5 hp5 hp5'
                 have hs := sameB_c A5 A n5 k c5 c o5s cs W5 B5.out (HA.out.after Hbv.out)
                 rw [P5.out, sameB_self] at hs
                 have Hsm := Lib.hid hs
                 clear hs
                 go_wp2_with fail
                 refine Hsm.out.mono ?_
                 rintro e W6 ⟨rfl, hb6⟩
                 have HF := Lib.hid (below_via Hbv.out hb6)
                 clear hb6 Hsm
                 go_wp2
                 go_ret
                 exact ⟨rfl, HF.out⟩
end Go.Proofs.Ytbpopkgpepmlcaa
namespace Go.Proofs.Ytbpopkgpepmlcaa
open Go Go.RowKit
set_option maxRecDepth 100000
attribute [local go_sem ↓] Go.wp_at_zero Go.wp_at_succ
theorem stay_get {p : List Val → Bool} {b : Bg} (h : mayBag b = true) {x : List Val × Int} (hx : x ∈ stayB p b) : x.2 ≠ 0 ∧ getB b x.1 = x.2 := by
 have h1 := (List.mem_filter.1 hx).1
 refine ⟨may_nz h x h1, ?_⟩
 unfold getB
 rw [if_pos h]
 exact look_mem b x (may_asc h) h1
theorem err_none (b : Bg) : errW (trueR []) b = 0 := (errW_iff _ b).2 fun _ _ => rfl
theorem where_none (b : Bg) : whereR (trueR []) b = b := by
 unfold whereR
 rw [if_pos (err_none b)]
 exact stay_all b
theorem where_again {f : List Val → Bool × Int} {b : Bg} (h : errW f b = 0) : errW f (whereR f b) = 0 ∧ whereR f (whereR f b) = whereR f b := by
 have e : whereR f b = stayB (fun r => (f r).1) b := by unfold whereR; rw [if_pos h]
 rw [e]
 refine ⟨errW_stay f _ h, ?_⟩
 unfold whereR
 rw [if_pos (errW_stay f _ h)]
 exact stay_stay _ b
theorem where_may {f : List Val → Bool × Int} {b : Bg} (h : mayBag b = true) : mayBag (whereR f b) = true := by
 unfold whereR
 split
 · exact stay_may _ h
 · rfl
set_option maxHeartbeats 16000000 in
theorem stays_w (x : Vq) (A : Option Addr) (n c : Nat) (cs : List Ct) (w : World) (hx : Vq.In w x) (hA : BgIn w A n cs) :
 Calls Try.prog 5 #[x.w, .slice A n c] w fun e w' => e = .returned (.bool true) ∧ Below w.heap.size w w' := by
 have HA := Lib.hid hA
 clear hA
 have HQ0 : Hid (Bq (w.alloc (.cells x.cells 28)) w.heap.size x) := Lib.hid (Bq.new w x)
 have HX := Lib.hid hx
 clear hx
 obtain ⟨nm, fr, wt, o0, o1, eA, en, ec, ee, pA, pn, pc, ps, gr, aA, an, ac⟩ := x
 have Hb : Hid (Below w.heap.size w (w.alloc (.cells #[.string nm, .string fr, .string wt, .int .i64 o0, .int .i64 o1, .slice eA en ec, .slice pA pn pc, .bool gr, .slice aA an ac] 28))) := Lib.hid (below_one _ _)
 have Hl : Hid (w.heap.size < (w.alloc (.cells #[.string nm, .string fr, .string wt, .int .i64 o0, .int .i64 o1, .slice eA en ec, .slice pA pn pc, .bool gr, .slice aA an ac] 28)).heap.size) := Lib.hid (by simp)
 have HQ : Hid (Bq (w.alloc (.cells #[.string nm, .string fr, .string wt, .int .i64 o0, .int .i64 o1, .slice eA en ec, .slice pA pn pc, .bool gr, .slice aA an ac] 28)) w.heap.size (⟨nm, fr, wt, o0, o1, eA, en, ec, ee, pA, pn, pc, ps, gr, aA, an, ac⟩ : Vq)) := HQ0
 clear HQ0
 dsimp only [Vq.w]
 go_enter Try.func5, Try.ntmps5
 go_wp2_with fail
 refine (qfixed_c _).mono ?_
 rintro e w1 ⟨rfl, hb⟩
 replace HQ := Lib.hid (HQ.out.below hb Hl.out)
 replace Hl := Lib.hid (Nat.lt_of_lt_of_le Hl.out hb.size)
 replace Hb := Lib.hid (below_via Hb.out hb)
 clear hb
 go_wp2_with fail
 refine (smallB_c A n c cs _ (HA.out.after Hb.out)).mono ?_
 rintro e w2 ⟨rfl, hb⟩
 replace HQ := Lib.hid (HQ.out.below hb Hl.out)
 replace Hl := Lib.hid (Nat.lt_of_lt_of_le Hl.out hb.size)
 replace Hb := Lib.hid (below_via Hb.out hb)
 clear hb
 cases hsa : smallB (pl cs)
 · clear hsa
   go_wp2_with fail
   refine (qfixed_c _).mono ?_
   rintro e w3 ⟨rfl, hb⟩
   have HF := Lib.hid (below_via Hb.out hb)
   clear hb Hb
   go_wp2
   go_ret
   exact ⟨rfl, HF.out⟩
 · have Hhsa := Lib.hid hsa
   clear hsa
   go_wp2_with fail
   refine (rmayBag_c A n c cs _ (HA.out.after Hb.out)).mono ?_
   rintro e w4 ⟨rfl, hb⟩
   replace HQ := Lib.hid (HQ.out.below hb Hl.out)
   replace Hl := Lib.hid (Nat.lt_of_lt_of_le Hl.out hb.size)
   replace Hb := Lib.hid (below_via Hb.out hb)
   clear hb
   cases hma : mayBag (pl cs)
   · clear hma
     go_wp2_with fail
     refine (qfixed_c _).mono ?_
     rintro e w5 ⟨rfl, hb⟩
     have HF := Lib.hid (below_via Hb.out hb)
     clear hb Hb
     go_wp2
     go_ret
     exact ⟨rfl, HF.out⟩
   · have Hhma := Lib.hid hma
     clear hma
     have hna : n ≤ 60 := by have := small_len Hhsa.out; rw [pl_len, HA.out.len] at this; exact this
     have q5 := HQ.out.whr
     try simp only at q5
     have lq := Hl.out
     by_cases h120 : (120 : Int) < en
     case pos =>
      go_wp2_with fail
      refine (qfixed_c _).mono ?_
      rintro e w6 ⟨rfl, hb⟩
      have HF := Lib.hid (below_via Hb.out hb)
      clear hb Hb
      go_wp2
      go_ret
      exact ⟨rfl, HF.out⟩
     case neg =>
      clear q5 lq
      obtain ⟨W, hW⟩ : ∃ W : World, w4 = W := ⟨_, rfl⟩
      rw [hW] at HQ Hl Hb ⊢
      clear hW
      obtain ⟨q0, q1, q2, q3, q4, q5, q6, q7, q8⟩ := HQ.out.all
      try simp only at q0 q1 q2 q3 q4 q5 q6 q7 q8
      have lq := Hl.out
      have h121 : (en : Int) ≤ 120 := by omega
      go_wp2_with fail
      refine (where_c (⟨nm, fr, wt, o0, o1, eA, en, ec, ee, pA, pn, pc, ps, gr, aA, an, ac⟩ : Vq) A n c cs W (HX.out.after Hb.out) (HA.out.after Hb.out) (by omega)).mono ?_
      rintro e W1 ⟨A1, n1, c1, o1s, er, rfl, hW1⟩
      have her := hW1.er
      have hpo := hW1.said
      rw [Hhma.out, if_pos rfl] at her hpo
      try simp only at her hpo
      have Her := Lib.hid her
      have Hpo := Lib.hid hpo
      have B1 := Lib.hid hW1.bag
      replace HQ := Lib.hid (HQ.out.below hW1.below Hl.out)
      replace Hl := Lib.hid (Nat.lt_of_lt_of_le Hl.out hW1.below.size)
      replace Hb := Lib.hid (below_via Hb.out hW1.below)
      clear q0 q1 q2 q3 q4 q5 q6 q7 q8 lq hW1 her hpo
      by_cases h0 : er = 0
      case neg =>
       have HN1 : Hid (n1 = 0) := Lib.hid (by
        have h1 : whereR (trueR ee) (pl cs) = [] := by
         unfold whereR
         rw [if_neg (by rw [← Her.out]; exact h0)]
        have h2 := B1.out.len
        rw [← pl_len, Hpo.out, h1] at h2
        exact h2.symm)
       have h1 : (er != 0) = true := by simp [h0]
       obtain rfl : n1 = 0 := HN1.out
       clear h0
       have HF := Lib.hid Hb.out
       go_wp2
       go_ret
       exact ⟨rfl, HF.out⟩
      case pos =>
       have h1 : (er != 0) = false := by simp [h0]
       have Her0 : Hid (errW (trueR ee) (pl cs) = 0) := Lib.hid (by rw [← Her.out]; exact h0)
       have Hsay : Hid (pl o1s = stayB (fun r => (trueR ee r).1) (pl cs)) := Lib.hid (by
        rw [Hpo.out]; unfold whereR; rw [if_pos Her0.out])
       have hn1 : n1 ≤ 60 := by
        have h2 := B1.out.len
        rw [← pl_len, Hsay.out] at h2
        have h3 : (stayB (fun r => (trueR ee r).1) (pl cs)).length ≤ (pl cs).length := List.length_filter_le _ _
        have h4 : (pl cs).length = n := by rw [pl_len, HA.out.len]
        omega
       clear h0
       go_wp2_with fail
       go_loopw [7] (fun q wr => ∃ k : Nat, k ≤ n1 ∧ q = .int .i64 k ∧ Hid (Below W1.heap.size W1 wr)) (fun q _ => n1 - (intOf q).toNat)
       case atStart => exact ⟨0, Nat.zero_le _, rfl, Lib.hid (Below.refl _ _)⟩
       case round =>
        obtain ⟨k, hk, rfl, hb⟩ := hrel
        by_cases hlt : k < n1
        · obtain ⟨b, off, rfl⟩ := B1.out.sl.some2 (k := k) (by rw [B1.out.len]; exact hlt)
          obtain ⟨x, hx⟩ : ∃ x, o1s[k]? = some x := ⟨_, List.getElem?_eq_getElem (by rw [B1.out.len]; exact hlt)⟩
          obtain ⟨hblt, c0, c1'⟩ := B1.out.sl.cell2 hx
          have d0 := (hb.out.cell (p := ⟨b, off + k * 2, none⟩) hblt).trans c0
          have d1 := (hb.out.cell (p := ⟨b, off + k * 2 + 1, none⟩) hblt).trans c1'
          have l0 : b < wr.heap.size := Nat.lt_of_lt_of_le hblt hb.out.size
          have Hxr := Lib.hid ((B1.out.each x (List.mem_of_getElem? hx)).after hb.out)
          have Hget := Lib.hid (stay_get Hhma.out (show (x.h.xs, x.N) ∈ stayB (fun r => (trueR ee r).1) (pl cs) by rw [← Hsay.out]; exact pl_mem (List.mem_of_getElem? hx)))
          clear c0 c1' hx
          obtain ⟨⟨xA, xn, xc, xs⟩, N⟩ := x
          have hgo : (k : Int) < n1 := by omega
          have hN0 : (N == 0) = false := by have h3 : N ≠ 0 := Hget.out.1; simp [h3]
          have HAr := Lib.hid ((HA.out.after Hb.out).after hb.out)
          have Hgt : Hid (getB (pl cs) xs = N) := Lib.hid Hget.out.2
          try simp only at d0 d1
          clear Hget
          go_wp2_with fail
          go_region_held3 (fun w' => w'.cell? ⟨b, off + k * 2, none⟩ = some (.slice xA xn xc) ∧ w'.cell? ⟨b, off + k * 2 + 1, none⟩ = some (.int .i64 N)) (first | exact HGC.out | go_keep)
           (first
             | (go_at_call 17
                refine (rgetB_c A n c cs ⟨xA, xn, xc, xs⟩ _ (by first | exact HAr.out | exact HAr.out.after (Below.refl _ _).drew) (by first | exact Hxr.out.hd | exact Hxr.out.hd.after (Below.refl _ _).drew)).mono ?_
                rintro en w9 ⟨rfl, hb9⟩
                have Hb9 : Hid (Below wr.heap.size wr w9) := Lib.hid (by first | exact hb9 | exact below_via (Below.refl _ _).drew hb9)
                have HGC : Hid (w9.cell? ⟨b, off + k * 2, none⟩ = some (.slice xA xn xc) ∧ w9.cell? ⟨b, off + k * 2 + 1, none⟩ = some (.int .i64 N)) := Lib.hid ⟨(Hb9.out.cell l0).trans d0, (Hb9.out.cell l0).trans d1⟩
                rw [show getB (pl cs) (⟨xA, xn, xc, xs⟩ : Hd).xs = N from Hgt.out]
                clear hb9))
          have HbF := Lib.hid (hb.out.trans (Hb9.out.mono hb.out.size))
          clear hN0 Hgt d0 d1
          go_wp2
          go_roundw
          case rel => exact ⟨k + 1, by omega, by go_num, HbF⟩
          case measure => simp [intOf]; omega
        · obtain rfl : k = n1 := by omega
          have HQw := HQ.out.below hb.out Hl.out
          have Hlw := Lib.hid (Nat.lt_of_lt_of_le Hl.out hb.out.size)
          have Hbw := Lib.hid (below_via Hb.out hb.out)
          have B1w := Lib.hid (B1.out.after hb.out)
          have HQw2 := Lib.hid HQw
          obtain ⟨q0, q1, q2, q3, q4, q5, q6, q7, q8⟩ := HQw.all
          try simp only at q0 q1 q2 q3 q4 q5 q6 q7 q8
          have lq := Hlw.out
          clear hb HQ Hl Hb B1 HQw
          go_wp2_with fail
          refine (where_c (⟨nm, fr, wt, o0, o1, eA, en, ec, ee, pA, pn, pc, ps, gr, aA, an, ac⟩ : Vq) A1 k c1 o1s wr (HX.out.after Hbw.out) B1w.out (by omega)).mono ?_
          rintro e W2 ⟨A2, n2, c2, o2s, er2, rfl, hW2⟩
          have hag := where_again Her0.out
          have he2 := hW2.er
          have hp2 := hW2.said
          rw [Hpo.out, where_may Hhma.out, if_pos rfl] at he2 hp2
          have he3 : er2 = 0 := he2.trans hag.1
          have hp3 : pl o2s = pl o1s := by rw [hp2, hag.2, Hpo.out]
          subst he3
          have B2 := Lib.hid hW2.bag
          have B1x := Lib.hid (B1w.out.after hW2.below)
          have Hbx := Lib.hid (below_via Hbw.out hW2.below)
          have Hp3 := Lib.hid hp3
          clear q0 q1 q2 q3 q4 q5 q6 q7 q8 lq hW2 he2 hp2 hp3 hag HQw2 Hlw Hbw B1w
          go_wp2_with fail
          refine (where_c (⟨emp, emp, emp, 0, 0, none, 0, 0, [], none, 0, 0, [], false, none, 0, 0⟩ : Vq) A n c cs W2 ⟨rfl, Nat.zero_le _, .inl rfl, nofun, rfl, Nat.zero_le _, .inl rfl⟩ (HA.out.after Hbx.out) (by omega)).mono ?_
          rintro e W3 ⟨A3, n3, c3, o3s, er3, rfl, hW3⟩
          have he2 := hW3.er
          have hp2 := hW3.said
          rw [Hhma.out, if_pos rfl] at he2 hp2
          have he3 : er3 = 0 := he2.trans (err_none _)
          have hp3 : pl o3s = pl cs := hp2.trans (where_none _)
          subst he3
          have B3 := Lib.hid hW3.bag
          have B2y := Lib.hid (B2.out.after hW3.below)
          have B1y := Lib.hid (B1x.out.after hW3.below)
          have Hby := Lib.hid (below_via Hbx.out hW3.below)
          have Hp4 := Lib.hid hp3
          clear hW3 he2 hp2 hp3 B2 B1x Hbx
          have hs := sameB_c A2 A1 n2 k c2 c1 o2s o1s W3 B2y.out B1y.out
          rw [Hp3.out, sameB_self] at hs
          have Hs := Lib.hid hs
          clear hs
          go_wp2_with fail
          refine Hs.out.mono ?_
          rintro e W4 ⟨rfl, hb4⟩
          have B3z := Lib.hid (B3.out.after hb4)
          have Hbz := Lib.hid (below_via Hby.out hb4)
          clear hb4 Hs
          have hs := sameB_c A3 A n3 n c3 c o3s cs W4 B3z.out (HA.out.after Hbz.out)
          rw [Hp4.out, sameB_self] at hs
          have Hs := Lib.hid hs
          clear hs
          go_wp2_with fail
          refine Hs.out.mono ?_
          rintro e W5 ⟨rfl, hb5⟩
          have HF := Lib.hid (below_via Hbz.out hb5)
          clear hb5 Hs
          go_wp2
          go_ret
          exact ⟨rfl, HF.out⟩
end Go.Proofs.Ytbpopkgpepmlcaa
namespace Go.Proofs.Ytbpopkgpepmlcaa
open Go Go.RowKit Go.ChangeShapes Go.WideShapes Go.ChangeAt Go.Joins Go.Deep
set_option maxRecDepth 100000
theorem own : ownKnob Try.prog.godebug = none := by kernel_rfl
theorem laidOut : laidOutB Try.prog = true := by kernel_rfl
section
variable {H : Type} {enc : TypeId × Value → H}
theorem slice_gen {α : Type} [Nonempty α] {W : World} {T E : TypeId} {S : Nat} (hT : Try.prog.underlying T = some (.slice E)) (hS : Try.prog.cellsOf E = S) (hS0 : 0 < S) (rd : α → List Value) (hrd : ∀ x, (rd x).length = S) (Q : α → Prop)
 (each : ∀ (cs' : List Value) (n : Nat) (z : DataW H × List MemPlace), DataW.trod enc Try.prog W 0 (fun _ => true) true n E cs' = some z → ∃ x : α, cs' = rd x ∧ Q x)
 {base : Nat} {v : Value} {d : DataW H} {p : List MemPlace} (hv : Value.okWide Try.prog W .any base T v) (h : DataW.Trod enc Try.prog W 0 (fun _ => true) true T v d p) :
 ∃ (A : Option Addr) (n c : Nat) (xs : List α), v = .slice A n c ∧ xs.length = n ∧ n ≤ maxLen ∧ n ≤ c ∧ SlG W A S rd xs ∧ ∀ x ∈ xs, Q x := by
 obtain ⟨a0, len, cap, rfl⟩ := okWide_slice hT hv
 obtain ⟨fuel, hf⟩ := h
 rcases open_slice hT hf with ⟨hcs, _⟩ | ⟨a, len', cap', m, n, D, Pl, hcs, _, hl, hm, hmm, _, hi⟩
 · simp [Value.cells] at hcs
   obtain ⟨rfl, rfl, rfl⟩ := hcs
   exact ⟨none, 0, 0, [], rfl, rfl, Nat.zero_le _, Nat.zero_le _, .inl rfl, (fun x h => by cases h)⟩
 · simp [Value.cells] at hcs
   obtain ⟨rfl, rfl, rfl⟩ := hcs
   have hm' : m = cap := by rw [hmm]; rfl
   have each' : ∀ i, i < len → ∃ x : α, (∀ j u, (rd x)[j]? = some u → W.cell? (a.add (i * S + j)) = some u) ∧ Q x := by
    intro i hil
    obtain ⟨cs', hc, ht'⟩ := hi i (by omega)
    obtain ⟨x, rfl, hx⟩ := each cs' n _ ht'
    rw [hS] at hc
    obtain ⟨_, hcl, hat⟩ := World.cells?_some hc
    refine ⟨x, fun j u hju => ?_, hx⟩
    have hj : j < S := by
     have := (List.getElem?_eq_some_iff.1 hju).1
     rw [hrd] at this
     exact this
    have := hat j hj
    rw [← Go.Deep.add_add]
    rw [this]
    exact hju
   rcases Nat.eq_zero_or_pos len with h0 | h0
   · subst h0
     exact ⟨some a, 0, cap, [], rfl, rfl, Nat.zero_le _, Nat.zero_le _, .inl rfl, (fun x h => by cases h)⟩
   · have first : ∃ x u, (rd x)[0]? = some u ∧ W.cell? (a.add (0 * S + 0)) = some u := by
      obtain ⟨x, hc, _⟩ := each' 0 h0
      have : (rd x)[0]? = some ((rd x)[0]'(by rw [hrd]; exact hS0)) := List.getElem?_eq_getElem _
      exact ⟨x, _, this, hc 0 _ this⟩
     have hspot : a.spot = none := by
      obtain ⟨x, u, _, hc⟩ := first
      simpa [Addr.add] using World.cell?_spot hc
     have ha : a = ⟨a.block, a.off, none⟩ := by cases a; simp at hspot; rw [hspot]
     have hadd : ∀ j, a.add j = ⟨a.block, a.off + j, none⟩ := fun j => by
      rw [ha]; unfold Addr.add; split
      · rename_i e; subst e; rfl
      · rfl
     refine ⟨some a, len, cap, (List.range len).map fun i => if h : i < len then Classical.choose (each' i h) else Classical.choice inferInstance, rfl, by simp, by omega, hl, .inr ⟨a.block, a.off, by rw [← ha], ?_, ?_⟩, ?_⟩
     · obtain ⟨x, u, _, hc⟩ := first
       rw [hadd] at hc
       exact World.block_lt_of_cell? W ⟨a.block, a.off + (0 * S + 0), none⟩ hc
     · intro i x hx j u hju
       have hil : i < len := by
        have := (List.getElem?_eq_some_iff.1 hx).1
        simpa using this
       have hx' : Classical.choose (each' i hil) = x := by
        rw [List.getElem?_map, List.getElem?_range hil] at hx
        simpa [hil] using hx
       have hc := (Classical.choose_spec (each' i hil)).1
       rw [hx'] at hc
       have := hc j u hju
       rw [hadd, ← Nat.add_assoc] at this
       exact this
     · intro x hx
       obtain ⟨i, hi, rfl⟩ := List.mem_map.1 hx
       have hil : i < len := List.mem_range.1 hi
       rw [dif_pos hil]
       exact (Classical.choose_spec (each' i hil)).2
theorem trodAll_below {P : Program} (hl : laidOutB P = true) {W W' : World} (hb : Below W.heap.size W W') (ts : List TypeId) : ∀ (vs : List Value) (ds : List (DataW H)) (ps : List MemPlace), (ts.all fun t => P.readableRec t && decide (t < P.types.size)) = true →
 DataW.TrodAll enc P W 0 (fun _ => true) true ts vs ds ps → (∀ x ∈ ps, x.block < W.heap.size) → DataW.TrodAll enc P W' 0 (fun b => decide (b < W.heap.size)) true ts vs ds ps := by
 induction ts with
 | nil =>
   intro vs ds ps _ h _
   cases vs <;> cases ds <;> first | exact h | exact h.elim
 | cons t ts ih =>
   intro vs ds ps ht h hlt
   cases vs with
   | nil => cases ds <;> exact h.elim
   | cons v vs =>
     cases ds with
     | nil => exact h.elim
     | cons d ds =>
       obtain ⟨p, q, h1, h2, rfl⟩ := h
       simp only [List.all_cons, Bool.and_eq_true, decide_eq_true_eq] at ht
       exact ⟨p, q, Below.trod hl ht.1.1 ht.1.2 h1 hb (fun x hx => hlt x (List.mem_append_left _ hx)), ih vs ds q ht.2 h2 (fun x hx => hlt x (List.mem_append_right _ hx)), rfl⟩
theorem law_post {f : Func} {s : ChangeSpec} {W W' : World} {args : Array Value} {ds gs : List (DataW H)} {before : List MemPlace}
 (hW : DataW.Whole enc Try.prog f.params.toList s.vars false W args.toList ds gs before) (hb : Below W.heap.size W W') (hvars : s.vars = []) (hp : (f.params.toList.all fun t => Try.prog.readableRec t && decide (t < Try.prog.types.size)) = true)
 (hr : f.resultTypes = #[4]) (hs : s.fn H (ds ++ gs) = { results := [.lit (.bool true)], args := ds }) : s.post enc Try.prog f false true false false W args (.bool true) W' := by
 have hlt : ∀ p ∈ before, p.block < W.heap.size := fun p hp => hW.lt p hp
 have hW0 := hW
 obtain ⟨p, q, hA, hV, rfl, _, _⟩ := hW
 rw [hvars] at hV
 obtain ⟨rfl, rfl⟩ := trodVars_none hV
 refine ⟨ds, [], _, [], p, [], hW0, ?_, ?_, ?_, ?_, fun h => by cases h⟩
 · rw [hs, hr]
   exact trodAll_mk1 (shut_bool Try.underlying4 _)
 · rw [hs]
   exact trodAll_below laidOut hb _ _ _ _ hp hA (fun x hx => hlt x (List.mem_append_left _ hx))
 · rw [hs, hvars]; rfl
 · exact hb.frame _
end
end Go.Proofs.Ytbpopkgpepmlcaa
namespace Go.Proofs.Ytbpopkgpepmlcaa
open Go Go.RowKit Go.ChangeShapes Go.WideShapes Go.ChangeAt Go.Joins Go.Deep
set_option maxRecDepth 100000
section
variable {H : Type} {enc : TypeId × Value → H}
theorem slice_cells {α : Type} [Nonempty α] {W : World} {T E : TypeId} {S : Nat} (hT : Try.prog.underlying T = some (.slice E)) (hS : Try.prog.cellsOf E = S) (hS0 : 0 < S) (rd : α → List Value) (hrd : ∀ x, (rd x).length = S) (Q : α → Prop)
 (each : ∀ (cs' : List Value) (n : Nat) (z : DataW H × List MemPlace), DataW.trod enc Try.prog W 0 (fun _ => true) true n E cs' = some z → ∃ x : α, cs' = rd x ∧ Q x)
 {fuel : Nat} {cs : List Value} {z : DataW H × List MemPlace} (hf : DataW.trod enc Try.prog W 0 (fun _ => true) true fuel T cs = some z) :
 ∃ (A : Option Addr) (n c : Nat) (xs : List α), cs = [.slice A n c] ∧ xs.length = n ∧ n ≤ maxLen ∧ n ≤ c ∧ SlG W A S rd xs ∧ ∀ x ∈ xs, Q x := by
 rcases open_slice hT hf with ⟨hcs, _⟩ | ⟨a, len, cap, m, n, D, Pl, hcs, _, hl, hm, hmm, _, hi⟩
 · subst hcs
   exact ⟨none, 0, 0, [], rfl, rfl, Nat.zero_le _, Nat.zero_le _, .inl rfl, (fun x h => by cases h)⟩
 · subst hcs
   have hm' : m = cap := by rw [hmm]; rfl
   have each' : ∀ i, i < len → ∃ x : α, (∀ j u, (rd x)[j]? = some u → W.cell? (a.add (i * S + j)) = some u) ∧ Q x := by
    intro i hil
    obtain ⟨cs', hc, ht'⟩ := hi i (by omega)
    obtain ⟨x, rfl, hx⟩ := each cs' n _ ht'
    rw [hS] at hc
    obtain ⟨_, hcl, hat⟩ := World.cells?_some hc
    refine ⟨x, fun j u hju => ?_, hx⟩
    have hj : j < S := by
     have := (List.getElem?_eq_some_iff.1 hju).1
     rw [hrd] at this
     exact this
    have := hat j hj
    rw [← Go.Deep.add_add]
    rw [this]
    exact hju
   rcases Nat.eq_zero_or_pos len with h0 | h0
   · subst h0
     exact ⟨some a, 0, cap, [], rfl, rfl, Nat.zero_le _, Nat.zero_le _, .inl rfl, (fun x h => by cases h)⟩
   · have first : ∃ x u, (rd x)[0]? = some u ∧ W.cell? (a.add (0 * S + 0)) = some u := by
      obtain ⟨x, hc, _⟩ := each' 0 h0
      have : (rd x)[0]? = some ((rd x)[0]'(by rw [hrd]; exact hS0)) := List.getElem?_eq_getElem _
      exact ⟨x, _, this, hc 0 _ this⟩
     have hspot : a.spot = none := by
      obtain ⟨x, u, _, hc⟩ := first
      simpa [Addr.add] using World.cell?_spot hc
     have ha : a = ⟨a.block, a.off, none⟩ := by cases a; simp at hspot; rw [hspot]
     have hadd : ∀ j, a.add j = ⟨a.block, a.off + j, none⟩ := fun j => by
      rw [ha]; unfold Addr.add; split
      · rename_i e; subst e; rfl
      · rfl
     refine ⟨some a, len, cap, (List.range len).map fun i => if h : i < len then Classical.choose (each' i h) else Classical.choice inferInstance, rfl, by simp, by omega, hl, .inr ⟨a.block, a.off, by rw [← ha], ?_, ?_⟩, ?_⟩
     · obtain ⟨x, u, _, hc⟩ := first
       rw [hadd] at hc
       exact World.block_lt_of_cell? W ⟨a.block, a.off + (0 * S + 0), none⟩ hc
     · intro i x hx j u hju
       have hil : i < len := by
        have := (List.getElem?_eq_some_iff.1 hx).1
        simpa using this
       have hx' : Classical.choose (each' i hil) = x := by
        rw [List.getElem?_map, List.getElem?_range hil] at hx
        simpa [hil] using hx
       have hc := (Classical.choose_spec (each' i hil)).1
       rw [hx'] at hc
       have := hc j u hju
       rw [hadd, ← Nat.add_assoc] at this
       exact this
     · intro x hx
       obtain ⟨i, hi, rfl⟩ := List.mem_map.1 hx
       have hil : i < len := List.mem_range.1 hi
       rw [dif_pos hil]
       exact (Classical.choose_spec (each' i hil)).2
end
end Go.Proofs.Ytbpopkgpepmlcaa
namespace Go.Proofs.Ytbpopkgpepmlcaa
open Go Go.RowKit Go.ChangeShapes Go.WideShapes Go.ChangeAt Go.Joins Go.Deep
set_option maxRecDepth 100000
section
variable {H : Type} {enc : TypeId × Value → H}
instance : Nonempty Val := ⟨nl⟩
instance : Nonempty Hd := ⟨⟨none, 0, 0, []⟩⟩
theorem cells_val {W : World} {m : Nat} {cs : List Value} {z : DataW H × List MemPlace} (h : DataW.trod enc Try.prog W 0 (fun _ => true) true m 48 cs = some z) :
 ∃ x : Val, cs = [.int .i64 x.k, .int .i64 x.n, .string x.s] ∧ x.s.size ≤ maxLen ∧ -9223372036854775808 ≤ x.n ∧ x.n ≤ 9223372036854775807 := by
 obtain ⟨ys, n, _, _, hcl, hlen, hf⟩ := DataW.trod_struct Try.underlying48 h
 have h3 : Try.prog.cellsOf 48 = 3 := by kernel_rfl
 rw [h3] at hcl
 match cs, hcl with
 | [a, b, c], _ =>
   have get : ∀ (j : Nat) (hj : j < 3), ys[j]? = some (ys[j]'(by rw [hlen]; exact hj)) := fun j hj => List.getElem?_eq_getElem _
   have h0 := (hf 0 _ rfl).trans (get 0 (by omega))
   have h1 := (hf 1 _ rfl).trans (get 1 (by omega))
   have h2 := (hf 2 _ rfl).trans (get 2 (by omega))
   obtain ⟨k, e0, _, _⟩ := DataW.trod_int Try.underlying3 h0
   obtain ⟨x, e1, _, wx⟩ := DataW.trod_int Try.underlying3 h1
   obtain ⟨s, e2, _, hs⟩ := DataW.trod_string Try.underlying9 h2
   have c3 : Try.prog.cellsOf 3 = 1 := by kernel_rfl
   have c9 : Try.prog.cellsOf 9 = 1 := by kernel_rfl
   simp [c3, c9] at e0 e1 e2
   subst e0 e1 e2
   have hx : -9223372036854775808 ≤ x ∧ x ≤ 9223372036854775807 := by simpa [Lit.wf, IntKind.min, IntKind.max, IntKind.signed, IntKind.bits] using wx
   exact ⟨⟨k, x, s⟩, rfl, hs, hx⟩
theorem cells_row {W : World} {m : Nat} {cs : List Value} {z : DataW H × List MemPlace} (h : DataW.trod enc Try.prog W 0 (fun _ => true) true m 44 cs = some z) : ∃ x : Hd, cs = rdH x ∧ ∀ N : Int, -9223372036854775808 ≤ N → N ≤ 9223372036854775807 → Ct.In W ⟨x, N⟩ := by
 obtain ⟨A, n, c, xs, h1, h2, h3, h4, h5, h6⟩ := slice_cells (α := Val) Try.underlying44 (S := 3) (by kernel_rfl) (by decide) rdV (fun _ => rfl) (fun x => x.s.size ≤ maxLen ∧ -9223372036854775808 ≤ x.n ∧ x.n ≤ 9223372036854775807) (fun cs n z hz => cells_val hz) h
 exact ⟨⟨A, n, c, xs⟩, h1, fun N hN0 hN1 => ⟨⟨h2, h3, h5.sl⟩, fun x hx => (h6 x hx).1, fun x hx => (h6 x hx).2, ⟨hN0, hN1⟩, h4⟩⟩
instance : Nonempty Ct := ⟨⟨⟨none, 0, 0, []⟩, 0⟩⟩
theorem cells_ct {W : World} {m : Nat} {cs : List Value} {z : DataW H × List MemPlace} (h : DataW.trod enc Try.prog W 0 (fun _ => true) true m 46 cs = some z) : ∃ x : Ct, cs = rdC x ∧ Ct.In W x := by
 obtain ⟨ys, n, _, _, hcl, hlen, hf⟩ := DataW.trod_struct Try.underlying46 h
 have h3 : Try.prog.cellsOf 46 = 2 := by kernel_rfl
 rw [h3] at hcl
 match cs, hcl with
 | [a, b], _ =>
   have get : ∀ (j : Nat) (hj : j < 2), ys[j]? = some (ys[j]'(by rw [hlen]; exact hj)) := fun j hj => List.getElem?_eq_getElem _
   have h0 := (hf 0 _ rfl).trans (get 0 (by omega))
   have h1 := (hf 1 _ rfl).trans (get 1 (by omega))
   obtain ⟨x, e0, hx⟩ := cells_row h0
   obtain ⟨N, e1, _, wx⟩ := DataW.trod_int Try.underlying3 h1
   have c3 : Try.prog.cellsOf 3 = 1 := by kernel_rfl
   have cR : Try.prog.cellsOf 44 = 1 := by kernel_rfl
   simp [c3, cR, rdH] at e0 e1
   subst e0 e1
   have hN : -9223372036854775808 ≤ N ∧ N ≤ 9223372036854775807 := by simpa [Lit.wf, IntKind.min, IntKind.max, IntKind.signed, IntKind.bits] using wx
   exact ⟨⟨x, N⟩, rfl, hx N hN.1 hN.2⟩
theorem bag_of {W : World} {base : Nat} {v : Value} {d : DataW H} {p : List MemPlace} (hv : Value.okWide Try.prog W .any base 30 v) (h : DataW.Trod enc Try.prog W 0 (fun _ => true) true 30 v d p) :
 ∃ (A : Option Addr) (n c : Nat) (cs : List Ct), v = .slice A n c ∧ BgIn W A n cs := by
 obtain ⟨A, n, c, cs, h1, h2, h3, h4, h5, h6⟩ := slice_gen (α := Ct) Try.underlying30 (S := 2) (by kernel_rfl) (by decide) rdC (fun _ => rfl) (fun x => Ct.In W x) (fun cs n z hz => cells_ct hz) hv h
 exact ⟨A, n, c, cs, h1, ⟨h2, h3, h5, h6⟩⟩
instance : Nonempty Nd := ⟨⟨0, 0, nl⟩⟩
theorem cells_nd {W : World} {m : Nat} {cs : List Value} {z : DataW H × List MemPlace} (h : DataW.trod enc Try.prog W 0 (fun _ => true) true m 54 cs = some z) :
 ∃ x : Nd, cs = x.cells.toList ∧ x.v.s.size ≤ maxLen := by
 obtain ⟨ys, n, _, _, hcl, hlen, hf⟩ := DataW.trod_struct Try.underlying54 h
 have hN : Try.prog.cellsOf 54 = 5 := by kernel_rfl
 rw [hN] at hcl
 match cs, hcl with
 | [a0, a1, a2, a3, a4], _ =>
   have get : ∀ (j : Nat) (hj : j < 3), ys[j]? = some (ys[j]'(by rw [hlen]; exact hj)) := fun j hj => List.getElem?_eq_getElem _
   have c3 : Try.prog.cellsOf 3 = 1 := by kernel_rfl
   have d0 : Try.prog.cellsOf 48 = 3 := by kernel_rfl
   have h0 := (hf 0 _ rfl).trans (get 0 (by omega))
   obtain ⟨o, e0, _, w0⟩ := DataW.trod_int Try.underlying3 h0
   have h1 := (hf 1 _ rfl).trans (get 1 (by omega))
   obtain ⟨x, e1, _, w1⟩ := DataW.trod_int Try.underlying3 h1
   have h2 := (hf 2 _ rfl).trans (get 2 (by omega))
   obtain ⟨v, e2, hs, hz⟩ := cells_val h2
   simp [c3, d0] at e0 e1 e2
   obtain ⟨rfl, rfl, rfl⟩ := e2
   subst e0 e1
   exact ⟨⟨o, x, v⟩, rfl, hs⟩
theorem cells_int {W : World} {m : Nat} {cs : List Value} {z : DataW H × List MemPlace} (h : DataW.trod enc Try.prog W 0 (fun _ => true) true m 3 cs = some z) : ∃ x : Int, cs = rdI x ∧ True := by
 obtain ⟨o, e0, _, w0⟩ := DataW.trod_int Try.underlying3 h
 exact ⟨o, e0, trivial⟩
theorem cells_on {W : World} {m : Nat} {cs : List Value} {z : DataW H × List MemPlace} (h : DataW.trod enc Try.prog W 0 (fun _ => true) true m 22 cs = some z) : ∃ x y : Int, cs = [.int .i64 x, .int .i64 y] := by
 obtain ⟨ys, n, _, _, hcl, hlen, hf⟩ := DataW.trod_array Try.underlying22 h
 have c3 : Try.prog.cellsOf 3 = 1 := by kernel_rfl
 have hN : Try.prog.cellsOf 22 = 2 := by kernel_rfl
 rw [hN] at hcl
 match cs, hcl with
 | [a0, a1], _ =>
   have h0 := (hf 0 (by omega)).trans (List.getElem?_eq_getElem (by omega))
   have h1 := (hf 1 (by omega)).trans (List.getElem?_eq_getElem (by omega))
   obtain ⟨x, e0, _, w0⟩ := DataW.trod_int Try.underlying3 h0
   obtain ⟨y, e1, _, w1⟩ := DataW.trod_int Try.underlying3 h1
   simp [c3] at e0 e1
   subst e0 e1
   exact ⟨x, y, rfl⟩
theorem cells_any {W : World} {m : Nat} {T E : TypeId} {cs : List Value} {z : DataW H × List MemPlace} (hT : Try.prog.underlying T = some (.slice E)) (h : DataW.trod enc Try.prog W 0 (fun _ => true) true m T cs = some z) : ∃ (A : Option Addr) (n c : Nat), cs = [.slice A n c] := by
 rcases DataW.trod_slice hT h with ⟨hc, _⟩ | ⟨a, len, cap, elems, rest, n', _, hc, _⟩
 · exact ⟨none, 0, 0, hc⟩
 · exact ⟨some a, len, cap, hc⟩
theorem cells_vw {W : World} {m : Nat} {cs : List Value} {z : DataW H × List MemPlace} (h : DataW.trod enc Try.prog W 0 (fun _ => true) true m 28 cs = some z) :
 ∃ x : Vq, cs = x.cells.toList ∧ Vq.In W x := by
 obtain ⟨ys, n, _, _, hcl, hlen, hf⟩ := DataW.trod_struct Try.underlying28 h
 have hN : Try.prog.cellsOf 28 = 9 := by kernel_rfl
 rw [hN] at hcl
 match cs, hcl with
 | [a0, a1, a2, a3, a4, a5, a6, a7, a8], _ =>
   have get : ∀ (j : Nat) (hj : j < 8), ys[j]? = some (ys[j]'(by rw [hlen]; exact hj)) := fun j hj => List.getElem?_eq_getElem _
   have c9 : Try.prog.cellsOf 9 = 1 := by kernel_rfl
   have c4 : Try.prog.cellsOf 4 = 1 := by kernel_rfl
   have d0 : Try.prog.cellsOf 22 = 2 := by kernel_rfl
   have d1 : Try.prog.cellsOf 24 = 1 := by kernel_rfl
   have d2 : Try.prog.cellsOf 25 = 1 := by kernel_rfl
   have d3 : Try.prog.cellsOf 26 = 1 := by kernel_rfl
   have h0 := (hf 0 _ rfl).trans (get 0 (by omega))
   obtain ⟨nm, e0, _, w0⟩ := DataW.trod_string Try.underlying9 h0
   have h1 := (hf 1 _ rfl).trans (get 1 (by omega))
   obtain ⟨fr, e1, _, w1⟩ := DataW.trod_string Try.underlying9 h1
   have h2 := (hf 2 _ rfl).trans (get 2 (by omega))
   obtain ⟨wt, e2, _, w2⟩ := DataW.trod_string Try.underlying9 h2
   have h3 := (hf 3 _ rfl).trans (get 3 (by omega))
   obtain ⟨on0, on1, e3⟩ := cells_on h3
   have h4 := (hf 4 _ rfl).trans (get 4 (by omega))
   obtain ⟨eA, en, ec, ee, e4, i4, i5, i6, i7, i8⟩ := slice_cells (α := Nd) Try.underlying24 (S := 5) (by kernel_rfl) (by decide) (fun x => x.cells.toList) (fun _ => rfl) (fun x => x.v.s.size ≤ maxLen) (fun cs n z hz => cells_nd hz) h4
   have h5 := (hf 5 _ rfl).trans (get 5 (by omega))
   obtain ⟨pA, pn, pc, ps, e5, j4, j5, j6, j7, j8⟩ := slice_cells (α := Int) Try.underlying25 (S := 1) (by kernel_rfl) (by decide) rdI (fun _ => rfl) (fun _ => True) (fun cs n z hz => cells_int hz) h5
   have h6 := (hf 6 _ rfl).trans (get 6 (by omega))
   obtain ⟨gr, e6, _⟩ := DataW.trod_bool Try.underlying4 h6
   have h7 := (hf 7 _ rfl).trans (get 7 (by omega))
   obtain ⟨aA, an, ac, e7⟩ := cells_any Try.underlying26 h7
   simp [c9, c4, d0, d1, d2, d3] at e0 e1 e2 e3 e4 e5 e6 e7
   obtain ⟨rfl, rfl⟩ := e3
   subst e0 e1 e2 e4 e5 e6 e7
   refine ⟨⟨nm, fr, wt, on0, on1, eA, en, ec, ee, pA, pn, pc, ps, gr, aA, an, ac⟩, rfl, ⟨i4, i5, ?_, i8, j4, j5, j7⟩⟩
   rcases i7 with h | ⟨b, off, hA, hlt, hc⟩
   · exact .inl h
   · exact .inr ⟨b, off, hA, hlt, fun i x hx => ⟨hc i x hx 0 _ rfl, hc i x hx 1 _ rfl, hc i x hx 2 _ rfl, hc i x hx 3 _ rfl, hc i x hx 4 _ rfl⟩⟩
theorem view_of {W : World} {base : Nat} {v : Value} {d : DataW H} {p : List MemPlace} (hv : Value.okWide Try.prog W .any base 28 v) (h : DataW.Trod enc Try.prog W 0 (fun _ => true) true 28 v d p) :
 ∃ x : Vq, v = x.w ∧ Vq.In W x := by
 obtain ⟨cs, rfl, _⟩ := okWide_struct Try.underlying28 hv
 obtain ⟨fuel, hf⟩ := h
 obtain ⟨x, hx, h1⟩ := cells_vw hf
 refine ⟨x, ?_, h1⟩
 have e : cs = x.cells := by
  have : cs.toList = x.cells.toList := hx
  exact Array.toList_inj.1 this
 rw [e]
 rfl
theorem cells_bag {W : World} {m : Nat} {cs : List Value} {z : DataW H × List MemPlace} (h : DataW.trod enc Try.prog W 0 (fun _ => true) true m 30 cs = some z) : ∃ (A : Option Addr) (n c : Nat) (xs : List Ct), cs = [.slice A n c] ∧ BgIn W A n xs := by
 obtain ⟨A, n, c, xs, h1, h2, h3, h4, h5, h6⟩ := slice_cells (α := Ct) Try.underlying30 (S := 2) (by kernel_rfl) (by decide) rdC (fun _ => rfl) (fun x => Ct.In W x) (fun cs n z hz => cells_ct hz) h
 exact ⟨A, n, c, xs, h1, ⟨h2, h3, h5, h6⟩⟩
theorem three_of {W : World} {base : Nat} {v : Value} {d : DataW H} {p : List MemPlace} (hv : Value.okWide Try.prog W .any base 32 v) (h : DataW.Trod enc Try.prog W 0 (fun _ => true) true 32 v d p) :
 ∃ (A B C : Option Addr) (n m k a b c : Nat) (xs ys zs : List Ct), v = .agg #[.slice A n a, .slice B m b, .slice C k c] ∧ BgIn W A n xs ∧ BgIn W B m ys ∧ BgIn W C k zs := by
 obtain ⟨cs, rfl, _⟩ := okWide_struct Try.underlying32 hv
 obtain ⟨fuel, hf⟩ := h
 obtain ⟨ys, n, _, _, hcl, hlen, hf⟩ := DataW.trod_struct Try.underlying32 hf
 have hN : Try.prog.cellsOf 32 = 3 := by kernel_rfl
 have d1 : Try.prog.cellsOf 30 = 1 := by kernel_rfl
 rw [hN] at hcl
 have hcl2 : cs.toList.length = 3 := hcl
 obtain ⟨l⟩ := cs
 match l, hcl2 with
 | [a0, a1, a2], _ =>
   have get : ∀ (j : Nat) (hj : j < 3), ys[j]? = some (ys[j]'(by rw [hlen]; exact hj)) := fun j hj => List.getElem?_eq_getElem _
   have h0 := (hf 0 _ rfl).trans (get 0 (by omega))
   obtain ⟨A, n0, c0, xs, e0, b0⟩ := cells_bag h0
   have h1 := (hf 1 _ rfl).trans (get 1 (by omega))
   obtain ⟨B, n1, c1, zs, e1, b1⟩ := cells_bag h1
   have h2 := (hf 2 _ rfl).trans (get 2 (by omega))
   obtain ⟨C, n2, c2, us, e2, b2⟩ := cells_bag h2
   simp [d1, Value.cells] at e0 e1 e2
   subst e0 e1 e2
   exact ⟨A, B, C, n0, n1, n2, c0, c1, c2, xs, zs, us, rfl, b0, b1, b2⟩
end
end Go.Proofs.Ytbpopkgpepmlcaa
