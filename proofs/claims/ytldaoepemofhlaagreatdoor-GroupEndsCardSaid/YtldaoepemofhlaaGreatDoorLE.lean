/-
  GroupEnds, walked. Of all views, bags and columns.
-/
import Derived.Test.YtldaoepemofhlaaGreatDoorR05
import Derived.Test.YtldaoepemofhlaaGreatDoorR06
namespace Go.Proofs.YtldaoepemofhlaaGreatDoor
open Go Go.RowKit

/-- What is known of the best one so far. -/
def Best (t : Int) (z : Val) (l : List Val) : Prop := (z.k = 0 ∧ ∀ v ∈ l, v.k = 0) ∨ (z.k ≠ 0 ∧ z ∈ l ∧ ∀ v ∈ l, v.k ≠ 0 → cmpV v z ≠ t)
theorem cmpV_up {t : Int} (ht : t = -1 ∨ t = 1) {a b c : Val} (h1 : cmpV a b = t) (h2 : cmpV b c = t) : cmpV a c = t := by
  rcases ht with rfl | rfl
  · exact cmp_trans h1 h2
  · have e1 : cmpV b a = -1 := by rw [cmp_neg a b, h1]
    have e2 : cmpV c b = -1 := by rw [cmp_neg b c, h2]
    have e3 := cmp_trans e2 e1
    rw [cmp_neg c a, e3]
    rfl
theorem Best.more {t : Int} (ht : t = -1 ∨ t = 1) {z v : Val} {l : List Val} (h : Best t z l) : Best t (extV t z v) (l ++ [v]) := by
  have hs : ∀ x : Val, cmpV x x ≠ t := fun x => by rw [cmpV_same]; rcases ht with rfl | rfl <;> decide
  unfold extV
  by_cases hv : v.k = 0
  · rw [if_pos hv]
    rcases h with ⟨h0, h1⟩ | ⟨h0, h1, h2⟩
    · refine .inl ⟨h0, fun u hu => ?_⟩
      rcases List.mem_append.1 hu with hu | hu
      · exact h1 u hu
      · rw [List.mem_singleton] at hu; subst hu; exact hv
    · refine .inr ⟨h0, List.mem_append_left _ h1, fun u hu hk => ?_⟩
      rcases List.mem_append.1 hu with hu | hu
      · exact h2 u hu hk
      · rw [List.mem_singleton] at hu; subst hu; exact absurd hv hk
  · rw [if_neg hv]
    by_cases hc : z.k = 0 ∨ cmpV v z = t
    · rw [if_pos hc]
      refine .inr ⟨hv, List.mem_append_right _ (List.mem_singleton.2 rfl), fun u hu hk => ?_⟩
      rcases List.mem_append.1 hu with hu | hu
      · rcases h with ⟨h0, h1⟩ | ⟨h0, h1, h2⟩
        · exact absurd (h1 u hu) hk
        · rcases hc with hc | hc
          · exact absurd hc h0
          · intro e
            exact h2 u hu hk (cmpV_up ht e hc)
      · rw [List.mem_singleton] at hu; subst hu; exact hs u
    · rw [if_neg hc]
      rcases h with ⟨h0, h1⟩ | ⟨h0, h1, h2⟩
      · exact absurd (.inl h0) hc
      · refine .inr ⟨h0, List.mem_append_left _ h1, fun u hu hk => ?_⟩
        rcases List.mem_append.1 hu with hu | hu
        · exact h2 u hu hk
        · rw [List.mem_singleton] at hu; subst hu; exact fun e => hc (.inr e)
theorem best_all {t : Int} (ht : t = -1 ∨ t = 1) (i : Int) : ∀ (b : Bg) (z : Val) (l : List Val), Best t z l → Best t (b.foldl (fun z x => extV t z (atR x.1 i)) z) (l ++ b.map fun x => atR x.1 i)
  | [], z, l, h => by simpa using h
  | x :: b, z, l, h => by
    have := best_all ht i b _ _ (h.more ht (v := atR x.1 i))
    simpa using this
/-- The best one of a column. -/
theorem best_ext {t : Int} (ht : t = -1 ∨ t = 1) (i : Int) (b : Bg) : Best t (extB t i b) (b.map fun x => atR x.1 i) := by
  have := best_all ht i b nl [] (.inl ⟨rfl, nofun⟩)
  rw [List.nil_append] at this
  exact this
theorem cmpV_rng (a b : Val) : cmpV a b = -1 ∨ cmpV a b = 0 ∨ cmpV a b = 1 := cmp_range a b
/-- None lies beyond. -/
theorem ext_lo {i : Int} {b : Bg} {x : List Val × Int} (hx : x ∈ b) (hk : (atR x.1 i).k ≠ 0) : (extB (-1) i b).k ≠ 0 ∧ ¬ cmpV (atR x.1 i) (extB (-1) i b) < 0 := by
  rcases best_ext (.inl rfl) i b with ⟨_, h⟩ | ⟨h0, _, h⟩
  · exact absurd (h _ (List.mem_map.2 ⟨x, hx, rfl⟩)) hk
  · have h1 := h _ (List.mem_map.2 ⟨x, hx, rfl⟩) hk
    refine ⟨h0, ?_⟩
    rcases cmpV_rng (atR x.1 i) (extB (-1) i b) with h2 | h2 | h2 <;> rw [h2] at h1 ⊢ <;> first | exact absurd rfl h1 | decide
theorem ext_hi {i : Int} {b : Bg} {x : List Val × Int} (hx : x ∈ b) (hk : (atR x.1 i).k ≠ 0) : (extB 1 i b).k ≠ 0 ∧ ¬ 0 < cmpV (atR x.1 i) (extB 1 i b) := by
  rcases best_ext (.inr rfl) i b with ⟨_, h⟩ | ⟨h0, _, h⟩
  · exact absurd (h _ (List.mem_map.2 ⟨x, hx, rfl⟩)) hk
  · have h1 := h _ (List.mem_map.2 ⟨x, hx, rfl⟩) hk
    refine ⟨h0, ?_⟩
    rcases cmpV_rng (atR x.1 i) (extB 1 i b) with h2 | h2 | h2 <;> rw [h2] at h1 ⊢ <;> first | exact absurd rfl h1 | decide
/-- Was the best one met? -/
def metV (i : Int) (z : Val) (b : Bg) : Bool := (z.k == 0) || b.any fun x => !((atR x.1 i).k == 0) && (atR x.1 i).eq z
theorem metV_all {t : Int} (ht : t = -1 ∨ t = 1) (i : Int) (b : Bg) : metV i (extB t i b) b = true := by
  unfold metV
  rcases best_ext ht i b with ⟨h, _⟩ | ⟨h0, h1, _⟩
  · rw [h]; rfl
  · rw [Bool.or_eq_true]
    right
    obtain ⟨x, hx, e⟩ := List.mem_map.1 h1
    refine List.any_eq_true.2 ⟨x, hx, ?_⟩
    have e2 : atR x.1 i = extB t i b := e
    rw [e2, Val.eq_self, Bool.and_true]
    simpa using h0
theorem metV_none (i : Int) (z : Val) : metV i z [] = (z.k == 0) := Bool.or_false _
theorem metV_more {i : Int} {z : Val} {b : Bg} {k : Nat} {x : List Val × Int} (h : b[k]? = some x) : metV i z (b.take (k + 1)) = (metV i z (b.take k) || (!((atR x.1 i).k == 0) && (atR x.1 i).eq z)) := by
  unfold metV
  rw [List.take_add_one, h, List.any_append, Bool.or_assoc]
  congr 2
  exact Bool.or_false _
end Go.Proofs.YtldaoepemofhlaaGreatDoor

namespace Go.Proofs.YtldaoepemofhlaaGreatDoor
open Go Go.RowKit
set_option maxRecDepth 100000
attribute [local go_sem ↓] Go.wp_at_zero Go.wp_at_succ run_eqV run_neV

theorem Bf.kept {w : World} {b g j : Nat} {cs : Array Value} {T : TypeId} {v : Value} (h : Bf w b cs T) (hne : b ≠ g) : Bf (w.setCell ⟨g, j, none⟩ v) b cs T := (Below.heap_setCell _ _ _ _ hne).trans h
theorem aggF_okE {fn col : Int} {b : Bg} (h : refR b = 0) : aggF fn col b = aggR fn col b := by unfold aggF; rw [if_pos h]
theorem small_lenE {b : Bg} (h : smallB b = true) : b.length ≤ 60 := by
  unfold smallB at h
  rw [Bool.and_eq_true, decide_eq_true_eq] at h
  exact h.2
theorem rowsF_none (ps : List Int) (gr : Bool) (ags : List (Int × Int)) : rowsF ps gr ags [] = ([], 0) := by
  have h : pickP ps [] = [] := List.length_eq_zero_iff.1 (Nat.le_zero.1 (pickP_len ps []))
  unfold rowsF
  rw [if_pos (show refR [] = 0 from rfl), if_pos (.inr h), h]
set_option maxHeartbeats 16000000 in
theorem ends_w (x : Vq) (ags : List (Int × Int)) (A : Option Addr) (n c : Nat) (cs : List Ct) (col : Int) (w : World) (hx : Vq.In w x) (hL : SlG w x.aA 2 rdA ags) (hLn : ags.length = x.an) (hA : BgIn w A n cs) (hG : Gl w) :
    Calls Tryz.prog 5 #[x.w, .slice A n c, .int .i64 col] w fun e w' => e = .returned (.bool true) ∧ Below w.heap.size w w' := by
  have HA := Lib.hid hA
  have HGl := Lib.hid hG
  have HX := Lib.hid hx
  have HL := Lib.hid hL
  have HLn := Lib.hid hLn
  have HQ0 : Hid (Bq (w.alloc (.cells x.cells 28)) w.heap.size x) := Lib.hid (Bq.new w x)
  clear hA hG hx hL hLn
  obtain ⟨nm, fr, wt, o0, o1, eA, en, ec, ee, pA, pn, pc, ps, gr, aA, an, ac⟩ := x
  obtain ⟨V, hV⟩ : ∃ V, w.alloc (.cells #[.string nm, .string fr, .string wt, .int .i64 o0, .int .i64 o1, .slice eA en ec, .slice pA pn pc, .bool gr, .slice aA an ac] 28) = V := ⟨_, rfl⟩
  have HQ : Hid (Bq V w.heap.size (⟨nm, fr, wt, o0, o1, eA, en, ec, ee, pA, pn, pc, ps, gr, aA, an, ac⟩ : Vq)) := Lib.hid (by rw [← hV]; exact HQ0.out)
  have HlV : Hid (w.heap.size < V.heap.size) := Lib.hid (by rw [← hV]; simp)
  have HVb : Hid (Below w.heap.size w V) := Lib.hid (by rw [← hV]; exact below_one _ _)
  clear HQ0
  dsimp only [Vq.w]
  go_enter Tryz.func5, Tryz.ntmps5
  go_wp2_with fail
  clear hV
  refine (gfixed_c V (HGl.out.after HVb.out)).mono ?_
  rintro e w1 ⟨rfl, hb⟩
  have Hb := Lib.hid hb
  clear hb
  go_wp2_with fail
  refine (smallB_c A n c cs _ ((HA.out.after HVb.out).after Hb.out)).mono ?_
  rintro e w2 ⟨rfl, hb⟩
  replace Hb := Lib.hid (below_via Hb.out hb)
  clear hb
  cases hsa : smallB (pl cs)
  · clear hsa
    go_wp2_with fail
    refine (gfixed_c _ ((HGl.out.after HVb.out).after Hb.out)).mono ?_
    rintro e w3 ⟨rfl, hb⟩
    have HF := Lib.hid (below_via HVb.out (below_via Hb.out hb))
    clear hb Hb
    go_wp2_with fail
    go_ret
    exact ⟨rfl, HF.out⟩
  · have hn : n ≤ 60 := by have h1 := small_lenE hsa; rw [pl_len, HA.out.len] at h1; exact h1
    clear hsa
    go_wp2_with fail
    refine (rright_c A n c cs _ ((HA.out.after HVb.out).after Hb.out) (by omega)).mono ?_
    rintro e w3 ⟨rfl, hb⟩
    replace Hb := Lib.hid (below_via Hb.out hb)
    clear hb
    obtain ⟨r, hr⟩ : ∃ r, refR (pl cs) = r := ⟨_, rfl⟩
    have Hr := Lib.hid hr
    rw [hr]
    clear hr
    by_cases h0 : r = 0
    · have h1 : (r != 0) = false := by simp [h0]
      have H0 : Hid (refR (pl cs) = 0) := Lib.hid (by rw [Hr.out]; exact h0)
      clear h0
      go_wp2_with fail
      have hag := agg_c A n c cs 2 col w3 ((HA.out.after HVb.out).after Hb.out) (by omega)
      rw [aggF_okE H0.out, show aggR 2 col (pl cs) = (extB (-1) col (pl cs), 0) from rfl] at hag
      obtain ⟨lo, hlo⟩ : ∃ lo, extB (-1) col (pl cs) = lo := ⟨_, rfl⟩
      rw [hlo] at hag
      have Hlo := Lib.hid hlo
      have Hag := Lib.hid hag
      clear hlo hag
      refine Hag.out.mono ?_
      rintro e w4 ⟨rfl, hb⟩
      have Hb4 : Hid (Below V.heap.size V (w4.alloc (.cells #[.int .i64 lo.k, .int .i64 lo.n, .string lo.s] 39))) := Lib.hid (below_via (below_via Hb.out hb) (below_one _ _))
      have Blo : Hid (Bf (w4.alloc (.cells #[.int .i64 lo.k, .int .i64 lo.n, .string lo.s] 39)) w4.heap.size #[.int .i64 lo.k, .int .i64 lo.n, .string lo.s] 39) := Lib.hid (Bf.new _ _ _)
      clear hb Hag Hb
      go_wp2_with fail
      have hag := agg_c A n c cs 3 col (w4.alloc (.cells #[.int .i64 lo.k, .int .i64 lo.n, .string lo.s] 39)) ((HA.out.after HVb.out).after Hb4.out) (by omega)
      rw [aggF_okE H0.out, show aggR 3 col (pl cs) = (extB 1 col (pl cs), 0) from rfl] at hag
      obtain ⟨hi, hhi⟩ : ∃ hi, extB 1 col (pl cs) = hi := ⟨_, rfl⟩
      rw [hhi] at hag
      have Hhi := Lib.hid hhi
      have Hag := Lib.hid hag
      clear hhi hag
      refine Hag.out.mono ?_
      rintro e w5 ⟨rfl, hb⟩
      have Blo5 := Lib.hid ((Blo.out.after hb Blo.out.lt).over (.cells #[.int .i64 hi.k, .int .i64 hi.n, .string hi.s] 39))
      have Bhi5 : Hid (Bf (w5.alloc (.cells #[.int .i64 hi.k, .int .i64 hi.n, .string hi.s] 39)) w5.heap.size #[.int .i64 hi.k, .int .i64 hi.n, .string hi.s] 39) := Lib.hid (Bf.new _ _ _)
      have Hb5 : Hid (Below V.heap.size V (w5.alloc (.cells #[.int .i64 hi.k, .int .i64 hi.n, .string hi.s] 39))) := Lib.hid (below_via (below_via Hb4.out hb) (below_one _ _))
      obtain ⟨lb, hlb⟩ : ∃ lb, w4.heap.size = lb := ⟨_, rfl⟩
      rw [hlb] at Blo5 ⊢
      clear hb Hag Blo Hb4 hlb
      obtain ⟨U, hU⟩ : ∃ U, w5.alloc (.cells #[.int .i64 hi.k, .int .i64 hi.n, .string hi.s] 39) = U := ⟨_, rfl⟩
      rw [hU] at Blo5 Bhi5 Hb5
      have HU := Lib.hid hU
      obtain ⟨hb9, hhb⟩ : ∃ q, w5.heap.size = q := ⟨_, rfl⟩
      rw [hhb] at Bhi5
      have l0 := Blo5.out.cell 0
      have l1 := Blo5.out.cell 1
      have l2 := Blo5.out.cell 2
      have g0 := Bhi5.out.cell 0
      have g1 := Bhi5.out.cell 1
      have g2 := Bhi5.out.cell 2
      have ll := Blo5.out.lt
      have lg := Bhi5.out.lt
      go_wp2_with fail
      have Bf6 : Hid (Bf (U.alloc (.cells #[.bool (lo.k == 0), .bool (hi.k == 0)] 53)) U.heap.size #[.bool (metV col lo ((pl cs).take 0)), .bool (metV col hi ((pl cs).take 0))] 53) := Lib.hid (by
        have := Bf.new U #[.bool (lo.k == 0), .bool (hi.k == 0)] 53
        rw [show (pl cs).take 0 = [] from rfl, metV_none, metV_none]
        exact this)
      have Blo6 := Lib.hid (Blo5.out.over (.cells #[.bool (lo.k == 0), .bool (hi.k == 0)] 53))
      have Bhi6 := Lib.hid (Bhi5.out.over (.cells #[.bool (lo.k == 0), .bool (hi.k == 0)] 53))
      have Hb6 : Hid (Below V.heap.size V (U.alloc (.cells #[.bool (lo.k == 0), .bool (hi.k == 0)] 53))) := Lib.hid (below_via Hb5.out (below_one _ _))
      have Hne : Hid (lb < U.heap.size ∧ hb9 < U.heap.size ∧ V.heap.size ≤ U.heap.size) := Lib.hid ⟨ll, lg, Hb5.out.size⟩
      clear l0 l1 l2 g0 g1 g2 ll lg hU hhb
      obtain ⟨U1, hU1⟩ : ∃ U1, U.alloc (.cells #[.bool (lo.k == 0), .bool (hi.k == 0)] 53) = U1 := ⟨_, rfl⟩
      have HU1 := Lib.hid hU1
      obtain ⟨fb, hfb⟩ : ∃ fb, U.heap.size = fb := ⟨_, rfl⟩
      rw [hU1] at Bf6 Blo6 Bhi6 Hb6 ⊢
      have HbU : Hid (Below fb U U1) := Lib.hid (by rw [← hU1, ← hfb]; exact below_one _ _)
      rw [hfb] at Bf6 Hne ⊢
      clear hU1 hfb HU HU1
      obtain ⟨KL, hKL⟩ : ∃ KL, (lo.k == 0) = KL := ⟨_, rfl⟩
      obtain ⟨KH, hKH⟩ : ∃ KH, (hi.k == 0) = KH := ⟨_, rfl⟩
      rw [hKL, hKH]
      clear hKL hKH
      go_loopw [12] (fun q wr => ∃ k : Nat, k ≤ n ∧ q = .int .i64 k ∧ Hid (Below fb U wr) ∧ Hid (Bf wr fb #[.bool (metV col lo ((pl cs).take k)), .bool (metV col hi ((pl cs).take k))] 53)) (fun q _ => n - (intOf q).toNat)
      case atStart => exact ⟨0, Nat.zero_le _, rfl, HbU, Bf6⟩
      case round =>
        obtain ⟨k, hk, rfl, hb, hf⟩ := hrel
        have HbV : Hid (Below V.heap.size V wr) := Lib.hid (Hb5.out.trans (hb.out.mono Hne.out.2.2))
        by_cases hlt : k < n
        · have HBr := (HA.out.after HVb.out).after HbV.out
          obtain ⟨bb, off, rfl⟩ := HBr.sl.some2 (k := k) (by rw [HBr.len]; exact hlt)
          obtain ⟨x, hx⟩ : ∃ x, cs[k]? = some x := ⟨_, List.getElem?_eq_getElem (by rw [HBr.len]; exact hlt)⟩
          obtain ⟨l0, d0, d1⟩ := HBr.sl.cell2 hx
          have Hxr := Lib.hid (HBr.each x (List.mem_of_getElem? hx))
          have Hmem := Lib.hid (List.mem_of_getElem? (pl_at hx))
          have Hm0 := Lib.hid (metV_more (i := col) (z := lo) (pl_at hx))
          have Hm1 := Lib.hid (metV_more (i := col) (z := hi) (pl_at hx))
          clear hx HBr
          obtain ⟨⟨xA, xn, xc, xs⟩, N⟩ := x
          have hgo : (k : Int) < n := by omega
          try simp only at d0 d1
          go_wp2_with fail
          refine (rat_c xA xn xc xs col _ Hxr.out.hd.len Hxr.out.hd.sl).mono ?_
          rintro e w7 ⟨rfl, hb7⟩
          have hm0 := Hm0.out
          have hm1 := Hm1.out
          try simp only at hm0 hm1
          have Hlo1 : Hid ((atR xs col).k ≠ 0 → (lo.k ≠ 0 ∧ ¬ cmpV (atR xs col) lo < 0) ∧ (hi.k ≠ 0 ∧ ¬ 0 < cmpV (atR xs col) hi)) := Lib.hid fun h => by
            have e1 := ext_lo (i := col) Hmem.out h
            have e2 := ext_hi (i := col) Hmem.out h
            rw [Hlo.out] at e1
            rw [Hhi.out] at e2
            exact ⟨e1, e2⟩
          obtain ⟨y, hy⟩ : ∃ y, atR xs col = y := ⟨_, rfl⟩
          have hlo1 := Hlo1.out
          rw [hy] at hm0 hm1 hlo1 ⊢
          have Hb7 : Hid (Below fb U (w7.alloc (.cells #[.int .i64 y.k, .int .i64 y.n, .string y.s] 39))) := Lib.hid ((hb.out.trans (hb7.mono (Nat.le_of_lt hf.out.lt))).alloc (Nat.le_trans (Nat.le_of_lt hf.out.lt) hb7.size) _)
          have Hf7 := Lib.hid ((hf.out.after hb7 hf.out.lt).over (.cells #[.int .i64 y.k, .int .i64 y.n, .string y.s] 39))
          have By : Hid (Bf (w7.alloc (.cells #[.int .i64 y.k, .int .i64 y.n, .string y.s] 39)) w7.heap.size #[.int .i64 y.k, .int .i64 y.n, .string y.s] 39) := Lib.hid (Bf.new _ _ _)
          have Bl : Hid (Bf (w7.alloc (.cells #[.int .i64 y.k, .int .i64 y.n, .string y.s] 39)) lb #[.int .i64 lo.k, .int .i64 lo.n, .string lo.s] 39) := Lib.hid (Blo5.out.after Hb7.out Hne.out.1)
          have Bh : Hid (Bf (w7.alloc (.cells #[.int .i64 y.k, .int .i64 y.n, .string y.s] 39)) hb9 #[.int .i64 hi.k, .int .i64 hi.n, .string hi.s] 39) := Lib.hid (Bhi5.out.after Hb7.out Hne.out.2.1)
          have Hfy : Hid (fb < w7.heap.size) := Lib.hid (Nat.lt_of_lt_of_le hf.out.lt hb7.size)
          have HM0 := Lib.hid hm0
          have HM1 := Lib.hid hm1
          have Hl1 := Lib.hid hlo1
          obtain ⟨yb, hyb⟩ : ∃ yb, w7.heap.size = yb := ⟨_, rfl⟩
          rw [hyb] at By Hfy
          have Hyb := Lib.hid hyb
          clear hm0 hm1 hlo1 hb7 hf hb d0 d1 Hm0 Hm1 Hlo1 hy Hxr
          by_cases hy0 : y.k = 0
          · have hy1 : (y.k == 0) = true := by simp [hy0]
            have Hf8 : Hid (Bf (w7.alloc (.cells #[.int .i64 y.k, .int .i64 y.n, .string y.s] 39)) fb #[.bool (metV col lo ((pl cs).take (k + 1))), .bool (metV col hi ((pl cs).take (k + 1)))] 53) := Lib.hid (by
              rw [HM0.out, HM1.out, hy1]
              simpa using Hf7.out)
            clear hy0 hyb
            go_wp2_with fail
            go_roundw
            case rel => exact ⟨k + 1, by omega, by go_num, Hb7, Hf8⟩
            case measure => simp [intOf]; omega
          · have hy1 : (y.k == 0) = false := by simp [hy0]
            obtain ⟨⟨hl0, hl1⟩, hh0, hh1⟩ := Hl1.out hy0
            have kl : (lo.k == 0) = false := by simp [hl0]
            have kh : (hi.k == 0) = false := by simp [hh0]
            have cl : decide (cmpV y lo < 0) = false := decide_eq_false hl1
            have ch : decide (0 < cmpV y hi) = false := decide_eq_false hh1
            obtain ⟨m0, hm0⟩ : ∃ m0, metV col lo ((pl cs).take k) = m0 := ⟨_, rfl⟩
            obtain ⟨m1, hm1⟩ : ∃ m1, metV col hi ((pl cs).take k) = m1 := ⟨_, rfl⟩
            rw [hm0, hm1] at Hf7
            have e0 := HM0.out
            have e1 := HM1.out
            rw [hm0, hy1, Bool.not_false, Bool.true_and] at e0
            rw [hm1, hy1, Bool.not_false, Bool.true_and] at e1
            have E0 := Lib.hid e0
            have E1 := Lib.hid e1
            obtain ⟨U7, hU7⟩ : ∃ U7, w7.alloc (.cells #[.int .i64 y.k, .int .i64 y.n, .string y.s] 39) = U7 := ⟨_, rfl⟩
            rw [hU7] at Hb7 Hf7 By Bl Bh
            have st0 := Hf7.out.thaw 0
            have st1 := Hf7.out.thaw 1
            have f0 := Hf7.out.cell 0
            have f1 := Hf7.out.cell 1
            have lf := Hf7.out.lt
            have y0 := By.out.cell 0
            have y1 := By.out.cell 1
            have y2 := By.out.cell 2
            have ly := By.out.lt
            have p0 := Bl.out.cell 0
            have p1 := Bl.out.cell 1
            have p2 := Bl.out.cell 2
            have lp := Bl.out.lt
            have q0 := Bh.out.cell 0
            have q1 := Bh.out.cell 1
            have q2 := Bh.out.cell 2
            have lq := Bh.out.lt
            have ny : yb ≠ fb := by have := Hfy.out; omega
            have nl2 : lb ≠ fb := by have := Hne.out.1; omega
            have nh2 : hb9 ≠ fb := by have := Hne.out.2.1; omega
            clear hy0 hl0 hl1 hh0 hh1 hm0 hm1 e0 e1
            have HT : Hid (∀ b0 b1 : Bool, Below fb U ((U7.setCell ⟨fb, 0, none⟩ (.bool b0)).setCell ⟨fb, 1, none⟩ (.bool b1)) ∧ Bf ((U7.setCell ⟨fb, 0, none⟩ (.bool b0)).setCell ⟨fb, 1, none⟩ (.bool b1)) fb #[.bool b0, .bool b1] 53) := Lib.hid fun b0 b1 =>
              ⟨(Hb7.out.setCell (Nat.le_refl _) (p := ⟨fb, 0, none⟩) _).setCell (Nat.le_refl _) (p := ⟨fb, 1, none⟩) _, (Hf7.out.set 0 _).set 1 _⟩
            cases m0
            · cases m1
              · go_wp2_with fail
                obtain ⟨hT1, hT2⟩ := HT.out ((⟨y.k, y.n, y.s⟩ : Val).eq ⟨lo.k, lo.n, lo.s⟩) ((⟨y.k, y.n, y.s⟩ : Val).eq ⟨hi.k, hi.n, hi.s⟩)
                have HS1 := Lib.hid hT1
                have HS2 : Hid (Bf ((U7.setCell ⟨fb, 0, none⟩ (.bool ((⟨y.k, y.n, y.s⟩ : Val).eq ⟨lo.k, lo.n, lo.s⟩))).setCell ⟨fb, 1, none⟩ (.bool ((⟨y.k, y.n, y.s⟩ : Val).eq ⟨hi.k, hi.n, hi.s⟩))) fb #[.bool (metV col lo ((pl cs).take (k + 1))), .bool (metV col hi ((pl cs).take (k + 1)))] 53) := Lib.hid (by rw [E0.out, E1.out]; exact hT2)
                have By9 : Hid (Bf ((U7.setCell ⟨fb, 0, none⟩ (.bool ((⟨y.k, y.n, y.s⟩ : Val).eq ⟨lo.k, lo.n, lo.s⟩))).setCell ⟨fb, 1, none⟩ (.bool ((⟨y.k, y.n, y.s⟩ : Val).eq ⟨hi.k, hi.n, hi.s⟩))) yb #[.int .i64 y.k, .int .i64 y.n, .string y.s] 39) := Lib.hid ((By.out.kept ny).kept ny)
                have Bh9 : Hid (Bf ((U7.setCell ⟨fb, 0, none⟩ (.bool ((⟨y.k, y.n, y.s⟩ : Val).eq ⟨lo.k, lo.n, lo.s⟩))).setCell ⟨fb, 1, none⟩ (.bool ((⟨y.k, y.n, y.s⟩ : Val).eq ⟨hi.k, hi.n, hi.s⟩))) hb9 #[.int .i64 hi.k, .int .i64 hi.n, .string hi.s] 39) := Lib.hid ((Bh.out.kept nh2).kept nh2)
                refine (rcompare_c y lo _).mono ?_
                rintro e w8 ⟨rfl, hb8⟩
                have HS3 : Hid (Below fb U w8) := Lib.hid (HS1.out.trans (hb8.mono (Nat.le_of_lt HS2.out.lt)))
                have HS4 := Lib.hid (HS2.out.after hb8 HS2.out.lt)
                have By8 := Lib.hid (By9.out.after hb8 By9.out.lt)
                have Bh8 := Lib.hid (Bh9.out.after hb8 Bh9.out.lt)
                clear hT1 hT2 HS1 HS2 By9 Bh9 hb8 y0 y1 y2 ly p0 p1 p2 lp q0 q1 q2 lq st0 st1 f0 f1 lf
                have y0 := By8.out.cell 0
                have y1 := By8.out.cell 1
                have y2 := By8.out.cell 2
                have ly := By8.out.lt
                have q0 := Bh8.out.cell 0
                have q1 := Bh8.out.cell 1
                have q2 := Bh8.out.cell 2
                have lq := Bh8.out.lt
                go_wp2_with fail
                refine (rcompare_c y hi _).mono ?_
                rintro e w9 ⟨rfl, hb9'⟩
                have HS5 : Hid (Below fb U w9) := Lib.hid (HS3.out.trans (hb9'.mono (Nat.le_of_lt HS4.out.lt)))
                have HS6 := Lib.hid (HS4.out.after hb9' HS4.out.lt)
                clear hb9' y0 y1 y2 ly q0 q1 q2 lq
                go_wp2_with fail
                go_roundw
                case rel => exact ⟨k + 1, by omega, by go_num, HS5, HS6⟩
                case measure => simp [intOf]; omega
              · go_wp2_with fail
                obtain ⟨hT1, hT2⟩ := HT.out ((⟨y.k, y.n, y.s⟩ : Val).eq ⟨lo.k, lo.n, lo.s⟩) true
                have HS1 := Lib.hid hT1
                have HS2 : Hid (Bf ((U7.setCell ⟨fb, 0, none⟩ (.bool ((⟨y.k, y.n, y.s⟩ : Val).eq ⟨lo.k, lo.n, lo.s⟩))).setCell ⟨fb, 1, none⟩ (.bool true)) fb #[.bool (metV col lo ((pl cs).take (k + 1))), .bool (metV col hi ((pl cs).take (k + 1)))] 53) := Lib.hid (by rw [E0.out, E1.out]; exact hT2)
                have By9 : Hid (Bf ((U7.setCell ⟨fb, 0, none⟩ (.bool ((⟨y.k, y.n, y.s⟩ : Val).eq ⟨lo.k, lo.n, lo.s⟩))).setCell ⟨fb, 1, none⟩ (.bool true)) yb #[.int .i64 y.k, .int .i64 y.n, .string y.s] 39) := Lib.hid ((By.out.kept ny).kept ny)
                have Bh9 : Hid (Bf ((U7.setCell ⟨fb, 0, none⟩ (.bool ((⟨y.k, y.n, y.s⟩ : Val).eq ⟨lo.k, lo.n, lo.s⟩))).setCell ⟨fb, 1, none⟩ (.bool true)) hb9 #[.int .i64 hi.k, .int .i64 hi.n, .string hi.s] 39) := Lib.hid ((Bh.out.kept nh2).kept nh2)
                refine (rcompare_c y lo _).mono ?_
                rintro e w8 ⟨rfl, hb8⟩
                have HS3 : Hid (Below fb U w8) := Lib.hid (HS1.out.trans (hb8.mono (Nat.le_of_lt HS2.out.lt)))
                have HS4 := Lib.hid (HS2.out.after hb8 HS2.out.lt)
                have By8 := Lib.hid (By9.out.after hb8 By9.out.lt)
                have Bh8 := Lib.hid (Bh9.out.after hb8 Bh9.out.lt)
                clear hT1 hT2 HS1 HS2 By9 Bh9 hb8 y0 y1 y2 ly p0 p1 p2 lp q0 q1 q2 lq st0 st1 f0 f1 lf
                have y0 := By8.out.cell 0
                have y1 := By8.out.cell 1
                have y2 := By8.out.cell 2
                have ly := By8.out.lt
                have q0 := Bh8.out.cell 0
                have q1 := Bh8.out.cell 1
                have q2 := Bh8.out.cell 2
                have lq := Bh8.out.lt
                go_wp2_with fail
                refine (rcompare_c y hi _).mono ?_
                rintro e w9 ⟨rfl, hb9'⟩
                have HS5 : Hid (Below fb U w9) := Lib.hid (HS3.out.trans (hb9'.mono (Nat.le_of_lt HS4.out.lt)))
                have HS6 := Lib.hid (HS4.out.after hb9' HS4.out.lt)
                clear hb9' y0 y1 y2 ly q0 q1 q2 lq
                go_wp2_with fail
                go_roundw
                case rel => exact ⟨k + 1, by omega, by go_num, HS5, HS6⟩
                case measure => simp [intOf]; omega
            · cases m1
              · go_wp2_with fail
                obtain ⟨hT1, hT2⟩ := HT.out true ((⟨y.k, y.n, y.s⟩ : Val).eq ⟨hi.k, hi.n, hi.s⟩)
                have HS1 := Lib.hid hT1
                have HS2 : Hid (Bf ((U7.setCell ⟨fb, 0, none⟩ (.bool true)).setCell ⟨fb, 1, none⟩ (.bool ((⟨y.k, y.n, y.s⟩ : Val).eq ⟨hi.k, hi.n, hi.s⟩))) fb #[.bool (metV col lo ((pl cs).take (k + 1))), .bool (metV col hi ((pl cs).take (k + 1)))] 53) := Lib.hid (by rw [E0.out, E1.out]; exact hT2)
                have By9 : Hid (Bf ((U7.setCell ⟨fb, 0, none⟩ (.bool true)).setCell ⟨fb, 1, none⟩ (.bool ((⟨y.k, y.n, y.s⟩ : Val).eq ⟨hi.k, hi.n, hi.s⟩))) yb #[.int .i64 y.k, .int .i64 y.n, .string y.s] 39) := Lib.hid ((By.out.kept ny).kept ny)
                have Bh9 : Hid (Bf ((U7.setCell ⟨fb, 0, none⟩ (.bool true)).setCell ⟨fb, 1, none⟩ (.bool ((⟨y.k, y.n, y.s⟩ : Val).eq ⟨hi.k, hi.n, hi.s⟩))) hb9 #[.int .i64 hi.k, .int .i64 hi.n, .string hi.s] 39) := Lib.hid ((Bh.out.kept nh2).kept nh2)
                refine (rcompare_c y lo _).mono ?_
                rintro e w8 ⟨rfl, hb8⟩
                have HS3 : Hid (Below fb U w8) := Lib.hid (HS1.out.trans (hb8.mono (Nat.le_of_lt HS2.out.lt)))
                have HS4 := Lib.hid (HS2.out.after hb8 HS2.out.lt)
                have By8 := Lib.hid (By9.out.after hb8 By9.out.lt)
                have Bh8 := Lib.hid (Bh9.out.after hb8 Bh9.out.lt)
                clear hT1 hT2 HS1 HS2 By9 Bh9 hb8 y0 y1 y2 ly p0 p1 p2 lp q0 q1 q2 lq st0 st1 f0 f1 lf
                have y0 := By8.out.cell 0
                have y1 := By8.out.cell 1
                have y2 := By8.out.cell 2
                have ly := By8.out.lt
                have q0 := Bh8.out.cell 0
                have q1 := Bh8.out.cell 1
                have q2 := Bh8.out.cell 2
                have lq := Bh8.out.lt
                go_wp2_with fail
                refine (rcompare_c y hi _).mono ?_
                rintro e w9 ⟨rfl, hb9'⟩
                have HS5 : Hid (Below fb U w9) := Lib.hid (HS3.out.trans (hb9'.mono (Nat.le_of_lt HS4.out.lt)))
                have HS6 := Lib.hid (HS4.out.after hb9' HS4.out.lt)
                clear hb9' y0 y1 y2 ly q0 q1 q2 lq
                go_wp2_with fail
                go_roundw
                case rel => exact ⟨k + 1, by omega, by go_num, HS5, HS6⟩
                case measure => simp [intOf]; omega
              · go_wp2_with fail
                obtain ⟨hT1, hT2⟩ := HT.out true true
                have HS1 := Lib.hid hT1
                have HS2 : Hid (Bf ((U7.setCell ⟨fb, 0, none⟩ (.bool true)).setCell ⟨fb, 1, none⟩ (.bool true)) fb #[.bool (metV col lo ((pl cs).take (k + 1))), .bool (metV col hi ((pl cs).take (k + 1)))] 53) := Lib.hid (by rw [E0.out, E1.out]; exact hT2)
                have By9 : Hid (Bf ((U7.setCell ⟨fb, 0, none⟩ (.bool true)).setCell ⟨fb, 1, none⟩ (.bool true)) yb #[.int .i64 y.k, .int .i64 y.n, .string y.s] 39) := Lib.hid ((By.out.kept ny).kept ny)
                have Bh9 : Hid (Bf ((U7.setCell ⟨fb, 0, none⟩ (.bool true)).setCell ⟨fb, 1, none⟩ (.bool true)) hb9 #[.int .i64 hi.k, .int .i64 hi.n, .string hi.s] 39) := Lib.hid ((Bh.out.kept nh2).kept nh2)
                refine (rcompare_c y lo _).mono ?_
                rintro e w8 ⟨rfl, hb8⟩
                have HS3 : Hid (Below fb U w8) := Lib.hid (HS1.out.trans (hb8.mono (Nat.le_of_lt HS2.out.lt)))
                have HS4 := Lib.hid (HS2.out.after hb8 HS2.out.lt)
                have By8 := Lib.hid (By9.out.after hb8 By9.out.lt)
                have Bh8 := Lib.hid (Bh9.out.after hb8 Bh9.out.lt)
                clear hT1 hT2 HS1 HS2 By9 Bh9 hb8 y0 y1 y2 ly p0 p1 p2 lp q0 q1 q2 lq st0 st1 f0 f1 lf
                have y0 := By8.out.cell 0
                have y1 := By8.out.cell 1
                have y2 := By8.out.cell 2
                have ly := By8.out.lt
                have q0 := Bh8.out.cell 0
                have q1 := Bh8.out.cell 1
                have q2 := Bh8.out.cell 2
                have lq := Bh8.out.lt
                go_wp2_with fail
                refine (rcompare_c y hi _).mono ?_
                rintro e w9 ⟨rfl, hb9'⟩
                have HS5 : Hid (Below fb U w9) := Lib.hid (HS3.out.trans (hb9'.mono (Nat.le_of_lt HS4.out.lt)))
                have HS6 := Lib.hid (HS4.out.after hb9' HS4.out.lt)
                clear hb9' y0 y1 y2 ly q0 q1 q2 lq
                go_wp2_with fail
                go_roundw
                case rel => exact ⟨k + 1, by omega, by go_num, HS5, HS6⟩
                case measure => simp [intOf]; omega
        · obtain rfl : k = n := by omega
          have htk : (pl cs).take k = pl cs := List.take_of_length_le (by rw [pl_len, HA.out.len]; exact Nat.le_refl _)
          have hf1 := hf.out
          rw [htk, show metV col lo (pl cs) = true by rw [← Hlo.out]; exact metV_all (.inl rfl) col (pl cs), show metV col hi (pl cs) = true by rw [← Hhi.out]; exact metV_all (.inr rfl) col (pl cs)] at hf1
          have HF1 := Lib.hid hf1
          have HQr := Lib.hid (HQ.out.below HbV.out HlV.out)
          have lQ : w.heap.size < wr.heap.size := Nat.lt_of_lt_of_le HlV.out HbV.out.size
          obtain ⟨v0, v1, v2, v3, v4, v5, v6, v7, v8⟩ := HQr.out.allG
          try simp only at v0 v1 v2 v3 v4 v5 v6 v7 v8
          have HXr := Lib.hid ((HX.out.after HVb.out).after HbV.out)
          have HLr := Lib.hid ((HL.out.after HVb.out).after HbV.out)
          have hrw := rowsG_c (⟨nm, fr, wt, o0, o1, eA, en, ec, ee, pA, pn, pc, ps, gr, aA, an, ac⟩ : Vq) ags none 0 0 [] wr HXr.out HLr.out HLn.out (.inr rfl) (bgIn_nil _) (by omega) ((HGl.out.after HVb.out).after HbV.out)
          rw [show rowsF (⟨nm, fr, wt, o0, o1, eA, en, ec, ee, pA, pn, pc, ps, gr, aA, an, ac⟩ : Vq).ps (⟨nm, fr, wt, o0, o1, eA, en, ec, ee, pA, pn, pc, ps, gr, aA, an, ac⟩ : Vq).grp ags (pl []) = ([], 0) from rowsF_none _ _ _] at hrw
          have Hrw := Lib.hid hrw
          clear htk hf1 hrw hf
          go_wp2_with fail
          refine Hrw.out.mono ?_
          rintro e w8 ⟨A8, n8, c8, os8, er8, rfl, hS8⟩
          have he8 := hS8.er2
          have hp8 := hS8.said
          obtain rfl : n8 = 0 := by rw [← hS8.bag.len, ← pl_len, hp8]; rfl
          subst he8
          have HF8 := Lib.hid (HF1.out.after hS8.below HF1.out.lt)
          have Hb8 : Hid (Below w.heap.size w w8) := Lib.hid (below_via HVb.out (below_via HbV.out hS8.below))
          have f0 := HF8.out.cell 0
          have f1 := HF8.out.cell 1
          have lf := HF8.out.lt
          clear hS8 hp8 v0 v1 v2 v3 v4 v5 v6 v7 v8 Hrw
          go_wp2_with fail
          go_ret
          exact ⟨rfl, Hb8.out⟩
    · have h1 : (r != 0) = true := by simp [h0]
      clear h0
      go_wp2_with fail
      refine (gfixed_c _ ((HGl.out.after HVb.out).after Hb.out)).mono ?_
      rintro e w4 ⟨rfl, hb⟩
      have HF := Lib.hid (below_via HVb.out (below_via Hb.out hb))
      clear hb Hb
      go_wp2_with fail
      go_ret
      exact ⟨rfl, HF.out⟩
end Go.Proofs.YtldaoepemofhlaaGreatDoor
