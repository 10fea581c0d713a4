/-
  Rows with counts that lie somewhere; whether a bag may be, as the document has it; whether one is small; whether two are the same. Of all bags.
-/
import Derived.Test.YthgoflaphbigbaaGreatDoorBagP
import Derived.Test.YthgoflaphbigbaaGreatDoorEv5
namespace Go.Proofs.YthgoflaphbigbaaGreatDoor
open Go Go.RowKit
set_option maxRecDepth 100000

/-- A row with a count, where it lies. -/
structure Ct where
  h : Hd
  N : Int
def rdC (c : Ct) : List Value := [.slice c.h.A c.h.n c.h.c, .int .i64 c.N]
theorem cOk : ElOk Tryz.prog 23 36 2 32 (.agg #[.slice none 0 0, .int .i64 0]) rdC where
  under := Tryz.underlying23
  info := by kernel_rfl
  zs := rfl
  pos := by decide
  len := fun _ => rfl
  one := fun x u hu => by
    simp [rdC] at hu
    rcases hu with rfl | rfl <;> rfl
/-- What it reads. -/
def pl (cs : List Ct) : Bg := cs.map fun c => (c.h.xs, c.N)
structure Ct.In (w : World) (c : Ct) : Prop where
  hd : Hd.In w c.h
  sz : ∀ x ∈ c.h.xs, x.s.size ≤ maxLen
  n64 : ∀ x ∈ c.h.xs, -9223372036854775808 ≤ x.n ∧ x.n ≤ 9223372036854775807
  N64 : -9223372036854775808 ≤ c.N ∧ c.N ≤ 9223372036854775807
theorem Ct.In.after {w w' : World} {c : Ct} (h : Ct.In w c) (hb : Below w.heap.size w w') : Ct.In w' c := ⟨h.hd.after hb, h.sz, h.n64, h.N64⟩
/-- A bag, where it lies. -/
structure BgIn (w : World) (A : Option Addr) (n : Nat) (cs : List Ct) : Prop where
  len : cs.length = n
  max : n ≤ maxLen
  sl : SlG w A 2 rdC cs
  each : ∀ c ∈ cs, Ct.In w c
theorem BgIn.after {w w' : World} {A : Option Addr} {n : Nat} {cs : List Ct} (h : BgIn w A n cs) (hb : Below w.heap.size w w') : BgIn w' A n cs := ⟨h.len, h.max, h.sl.after hb, fun c hc => (h.each c hc).after hb⟩
theorem SlG.at2 {w : World} {A : Option Addr} {xs : List Ct} (h : SlG w A 2 rdC xs) {k : Nat} (hk : k < xs.length) :
    ∃ b off x, A = some ⟨b, off, none⟩ ∧ b < w.heap.size ∧ xs[k]? = some x ∧ w.cell? ⟨b, off + k * 2, none⟩ = some (.slice x.h.A x.h.n x.h.c) ∧ w.cell? ⟨b, off + k * 2 + 1, none⟩ = some (.int .i64 x.N) := by
  rcases h with rfl | ⟨b, off, hA, hlt, h⟩
  · simp at hk
  · refine ⟨b, off, xs[k], hA, hlt, List.getElem?_eq_getElem hk, ?_, ?_⟩
    · exact h k xs[k] (List.getElem?_eq_getElem hk) 0 _ rfl
    · exact h k xs[k] (List.getElem?_eq_getElem hk) 1 _ rfl
theorem SlG.some2 {w : World} {A : Option Addr} {xs : List Ct} (h : SlG w A 2 rdC xs) {k : Nat} (hk : k < xs.length) : ∃ b off, A = some ⟨b, off, none⟩ := by
  obtain ⟨b, off, _, hA, _⟩ := h.at2 hk
  exact ⟨b, off, hA⟩
theorem SlG.cell2 {w : World} {b off : Nat} {xs : List Ct} (h : SlG w (some ⟨b, off, none⟩) 2 rdC xs) {k : Nat} {x : Ct} (hx : xs[k]? = some x) :
    b < w.heap.size ∧ w.cell? ⟨b, off + k * 2, none⟩ = some (.slice x.h.A x.h.n x.h.c) ∧ w.cell? ⟨b, off + k * 2 + 1, none⟩ = some (.int .i64 x.N) := by
  obtain ⟨b', off', y, hA, h1, h2, h3, h4⟩ := h.at2 (List.getElem?_eq_some_iff.1 hx).1
  rw [hx] at h2
  cases h2
  cases hA
  exact ⟨h1, h3, h4⟩
theorem pl_at {cs : List Ct} {k : Nat} {c : Ct} (h : cs[k]? = some c) : (pl cs)[k]? = some (c.h.xs, c.N) := by
  unfold pl
  rw [List.getElem?_map, h]
  rfl
theorem pl_len (cs : List Ct) : (pl cs).length = cs.length := by simp [pl]

def mayFrom : Option (List Val) → Bg → Bool
  | _, [] => true
  | none, x :: b => okC x && mayFrom (some x.1) b
  | some q, x :: b => okC x && (decide (cmpL q x.1 < 0) && mayFrom (some x.1) b)
theorem mayFrom_nil (q : Option (List Val)) : mayFrom q [] = true := by cases q <;> rfl
theorem mayFrom_some : ∀ (b : Bg) (q : List Val × Int), mayFrom (some q.1) b = (b.all okC && risesB (q :: b))
  | [], q => rfl
  | x :: b, q => by
    rw [mayFrom, mayFrom_some b x, List.all_cons, risesB]
    cases okC x <;> cases decide (cmpL q.1 x.1 < 0) <;> cases b.all okC <;> rfl
theorem mayFrom_none : ∀ b : Bg, mayFrom none b = mayBag b
  | [] => rfl
  | x :: b => by
    unfold mayBag
    rw [mayFrom, mayFrom_some b x, List.all_cons, Bool.and_assoc]
def prevOf (b : Bg) : Nat → Option (List Val)
  | 0 => none
  | k + 1 => (b[k]?).map (·.1)
theorem prev_succ {b : Bg} {k : Nat} {x : List Val × Int} (h : b[k]? = some x) : prevOf b (k + 1) = some x.1 := by rw [prevOf, h]; rfl
theorem mayFrom_drop (b : Bg) (k : Nat) (x : List Val × Int) (h : b[k]? = some x) :
    mayFrom (prevOf b k) (b.drop k) = (okC x && ((match prevOf b k with | none => true | some q => decide (cmpL q x.1 < 0)) && mayFrom (prevOf b (k + 1)) (b.drop (k + 1)))) := by
  have h1 := List.drop_eq_getElem_cons (List.getElem?_eq_some_iff.1 h).1
  rw [(List.getElem?_eq_some_iff.1 h).2] at h1
  rw [h1, prev_succ h]
  cases prevOf b k with
  | none => rw [mayFrom, Bool.true_and]
  | some q => rw [mayFrom]
theorem rmay_mayR (xs : List Val) : rmayR xs = mayR xs := by
  unfold rmayR mayR
  rw [show mayB = rmB from funext may_rm]


theorem fits5_c (n : Int) (w : World) : Calls Tryz.prog 28 #[.int .i64 n] w fun e w' => e = .returned (.bool (decide (-1000000000 ≤ n) && decide (n ≤ 1000000000))) ∧ Below w.heap.size w w' := by
  cases h1 : decide (-1000000000 ≤ n)
  · go_enter Tryz.func28, Tryz.ntmps28
    go_wp2
    go_ret
    exact ⟨rfl, Below.refl _ _⟩
  · go_enter Tryz.func28, Tryz.ntmps28
    go_wp2
    go_ret
    exact ⟨rfl, Below.refl _ _⟩
theorem okC_and (xs : List Val) (N : Int) : okC (xs, N) = (!(N == 0) && ((decide (-1000000000 ≤ N) && decide (N ≤ 1000000000)) && mayR xs)) := by
  unfold okC
  simp only [Bool.and_assoc]


set_option maxHeartbeats 4000000 in
theorem rmayBag_c (A : Option Addr) (n c : Nat) (cs : List Ct) (w : World) (hB : BgIn w A n cs) :
    Calls Tryz.prog 8 #[.slice A n c] w fun e w' => e = .returned (.bool (mayBag (pl cs))) ∧ Below w.heap.size w w' := by
  obtain ⟨R, hR⟩ : ∃ R, mayBag (pl cs) = R := ⟨_, rfl⟩
  rw [hR]
  rw [← mayFrom_none] at hR
  have HR := Lib.hid hR
  have HB := Lib.hid hB
  have hmx : n ≤ 9223372036854775807 := hB.max
  clear hB hR
  go_enter Tryz.func8, Tryz.ntmps8
  go_wp2_with fail
  go_loopw [3] (fun i wr => ∃ k : Nat, k ≤ n ∧ i = .int .i64 k ∧ Hid (Below w.heap.size w wr) ∧ Hid (mayFrom (prevOf (pl cs) k) ((pl cs).drop k) = R)) (fun i _ => n - (intOf i).toNat)
  case atStart => exact ⟨0, Nat.zero_le _, rfl, Lib.hid (Below.refl _ _), HR⟩
  case round =>
    obtain ⟨k, hk, rfl, hb, hinv⟩ := hrel
    clear HR
    by_cases hlt : k < n
    · obtain ⟨b, off, rfl⟩ := HB.out.sl.some2 (k := k) (by rw [HB.out.len]; exact hlt)
      obtain ⟨x, hx⟩ : ∃ x, cs[k]? = some x := ⟨_, List.getElem?_eq_getElem (by rw [HB.out.len]; exact hlt)⟩
      obtain ⟨hblt, c0, c1⟩ := HB.out.sl.cell2 hx
      have d0 := Lib.hid ((hb.out.cell (p := ⟨b, off + k * 2, none⟩) hblt).trans c0)
      have d1 := Lib.hid ((hb.out.cell (p := ⟨b, off + k * 2 + 1, none⟩) hblt).trans c1)
      have l0 : b < wr.heap.size := Nat.lt_of_lt_of_le hblt hb.out.size
      have Hx := Lib.hid ((HB.out.each x (List.mem_of_getElem? hx)).after hb.out)
      have Hst := Lib.hid ((mayFrom_drop (pl cs) k _ (pl_at hx)).symm.trans hinv.out)
      clear hinv c0 c1 hx
      obtain ⟨⟨xA, xn, xc, xs⟩, N⟩ := x
      have hprev : Hid (∀ j, k = j + 1 → ∃ y : Ct, prevOf (pl cs) k = some y.h.xs ∧ Ct.In wr y ∧ wr.cell? ⟨b, off + j * 2, none⟩ = some (.slice y.h.A y.h.n y.h.c)) := Lib.hid (by
        rintro j rfl
        obtain ⟨y, hy⟩ : ∃ y, cs[j]? = some y := ⟨_, List.getElem?_eq_getElem (by rw [HB.out.len]; omega)⟩
        obtain ⟨hblt, c0, c1⟩ := HB.out.sl.cell2 hy
        exact ⟨y, prev_succ (pl_at hy), (HB.out.each y (List.mem_of_getElem? hy)).after hb.out, (hb.out.cell (p := ⟨b, off + j * 2, none⟩) hblt).trans c0⟩)
      have hgo : (k : Int) < n := by omega
      go_wp2_with fail
      cases hN0 : N == 0
      · cases hF1 : (decide (-1000000000 ≤ N) && decide (N ≤ 1000000000))
        · have Hst2 : Hid (false = R) := by
            have := Hst.out
            rw [okC_and] at this
            simp only [hN0, hF1, Bool.not_false, Bool.true_and, Bool.false_and] at this
            exact Lib.hid this
          clear Hst
          refine Reg.wp_region_vals mixed (by kernel_rfl) [(10, .slice (some ⟨b, off, none⟩) n c), (11, .int .i64 (k : Nat)), (12, .pointer (some ⟨b, off + k * 2, none⟩)), (13, .pointer (some ⟨b, off + k * 2 + 1, none⟩)), (14, .int .i64 N), (15, .bool false), (16, .bool false), (17, .slice (some ⟨b, off, none⟩) n c), (18, .int .i64 (k : Nat)), (19, .pointer (some ⟨b, off + k * 2, none⟩)), (20, .pointer (some ⟨b, off + k * 2 + 1, none⟩)), (21, .int .i64 N), (22, .bool false), (23, .bool true), (24, .bool true), (25, .bool true), (26, undef), (27, undef), (28, undef), (29, undef), (30, undef), (31, undef), (32, undef), (33, .bool true), (34, .bool true), (35, undef), (36, undef), (37, undef), (38, undef), (39, undef), (40, undef), (41, undef), (42, undef), (43, undef), (44, undef), (45, undef), (46, undef), (47, undef), (48, undef), (49, undef), (50, undef), (51, undef), (52, .bool true)] 53 rfl (by kernel_rfl) ?_ ?_
          · intro F hF w' hB
            have j0 := (hB.cell (p := ⟨b, off + k * 2, none⟩) l0).trans d0.out
            have j1 := (hB.cell (p := ⟨b, off + k * 2 + 1, none⟩) l0).trans d1.out
            have ix := Hx.out.after hB
            refine ⟨?_, ?_, ?_, ?_, ?_, ?_, ?_, ?_, ?_, ?_, ?_, ?_, ?_, ?_, ?_, ?_, ?_, ?_, ?_, ?_, ?_, ?_, ?_, ?_, ?_, ?_, ?_, ?_, ?_, ?_, ?_, ?_, ?_, ?_, ?_, ?_, ?_, ?_, ?_, ?_, ?_, ?_, ?_, trivial⟩
            · exact Reg.doesV_val (ev_move rfl) (by rw [hF]; kernel_rfl) (by rw [hF]; kernel_rfl)
            · exact Reg.doesV_val (ev_move rfl) (by rw [hF]; kernel_rfl) (by rw [hF]; kernel_rfl)
            · exact Reg.doesV_val (ev_idxC (b := b) (off := off) (n := n) (c := c) (k := k) hlt rfl (by rw [hF]; kernel_rfl) (by rw [hF]; kernel_rfl)) (by rw [hF]; kernel_rfl) (by rw [hF]; kernel_rfl)
            · exact Reg.doesV_val (ev_c1 (b := b) (off := off + k * 2) rfl (by rw [hF]; kernel_rfl)) (by rw [hF]; kernel_rfl) (by rw [hF]; kernel_rfl)
            · exact Reg.doesV_val (ev_ldI (k := N) j1 rfl (by rw [hF]; kernel_rfl)) (by rw [hF]; kernel_rfl) (by rw [hF]; kernel_rfl)
            · exact Reg.doesV_val (by rw [ev_eqC5 N 0 rfl (by rw [hF]; kernel_rfl), hN0]) (by rw [hF]; kernel_rfl) (by rw [hF]; kernel_rfl)
            · exact Reg.doesV_val (ev_move rfl) (by rw [hF]; kernel_rfl) (by rw [hF]; kernel_rfl)
            · exact Reg.doesV_val (ev_move rfl) (by rw [hF]; kernel_rfl) (by rw [hF]; kernel_rfl)
            · exact Reg.doesV_val (ev_move rfl) (by rw [hF]; kernel_rfl) (by rw [hF]; kernel_rfl)
            · exact Reg.doesV_val (ev_idxC (b := b) (off := off) (n := n) (c := c) (k := k) hlt rfl (by rw [hF]; kernel_rfl) (by rw [hF]; kernel_rfl)) (by rw [hF]; kernel_rfl) (by rw [hF]; kernel_rfl)
            · exact Reg.doesV_val (ev_c1 (b := b) (off := off + k * 2) rfl (by rw [hF]; kernel_rfl)) (by rw [hF]; kernel_rfl) (by rw [hF]; kernel_rfl)
            · exact Reg.doesV_val (ev_ldI (k := N) j1 rfl (by rw [hF]; kernel_rfl)) (by rw [hF]; kernel_rfl) (by rw [hF]; kernel_rfl)
            · exact Reg.doesV_call (by have h := fits5_c N w'; rw [hF1] at h; exact h) (ev_call enRFits rfl (by rw [hF]; kernel_rfl)) (by rw [hF]; kernel_rfl) (by rw [hF]; kernel_rfl)
            · exact Reg.doesV_val (ev_not false rfl (by rw [hF]; kernel_rfl)) (by rw [hF]; kernel_rfl) (by rw [hF]; kernel_rfl)
            · exact Reg.doesV_val (ev_pick false rfl (by rw [hF]; kernel_rfl)) (by rw [hF]; kernel_rfl) (by rw [hF]; kernel_rfl)
            · exact Reg.doesV_val (ev_move rfl) (by rw [hF]; kernel_rfl) (by rw [hF]; kernel_rfl)
            · exact Reg.doesV_skip (by rw [hF]; kernel_rfl) (by rw [hF]; kernel_rfl)
            · exact Reg.doesV_skip (by rw [hF]; kernel_rfl) (by rw [hF]; kernel_rfl)
            · exact Reg.doesV_skip (by rw [hF]; kernel_rfl) (by rw [hF]; kernel_rfl)
            · exact Reg.doesV_skip (by rw [hF]; kernel_rfl) (by rw [hF]; kernel_rfl)
            · exact Reg.doesV_skip (by rw [hF]; kernel_rfl) (by rw [hF]; kernel_rfl)
            · exact Reg.doesV_skip (by rw [hF]; kernel_rfl) (by rw [hF]; kernel_rfl)
            · exact Reg.doesV_skip (by rw [hF]; kernel_rfl) (by rw [hF]; kernel_rfl)
            · exact Reg.doesV_val (ev_pick true rfl (by rw [hF]; kernel_rfl)) (by rw [hF]; kernel_rfl) (by rw [hF]; kernel_rfl)
            · exact Reg.doesV_val (ev_move rfl) (by rw [hF]; kernel_rfl) (by rw [hF]; kernel_rfl)
            · exact Reg.doesV_skip (by rw [hF]; kernel_rfl) (by rw [hF]; kernel_rfl)
            · exact Reg.doesV_skip (by rw [hF]; kernel_rfl) (by rw [hF]; kernel_rfl)
            · exact Reg.doesV_skip (by rw [hF]; kernel_rfl) (by rw [hF]; kernel_rfl)
            · exact Reg.doesV_skip (by rw [hF]; kernel_rfl) (by rw [hF]; kernel_rfl)
            · exact Reg.doesV_skip (by rw [hF]; kernel_rfl) (by rw [hF]; kernel_rfl)
            · exact Reg.doesV_skip (by rw [hF]; kernel_rfl) (by rw [hF]; kernel_rfl)
            · exact Reg.doesV_skip (by rw [hF]; kernel_rfl) (by rw [hF]; kernel_rfl)
            · exact Reg.doesV_skip (by rw [hF]; kernel_rfl) (by rw [hF]; kernel_rfl)
            · exact Reg.doesV_skip (by rw [hF]; kernel_rfl) (by rw [hF]; kernel_rfl)
            · exact Reg.doesV_skip (by rw [hF]; kernel_rfl) (by rw [hF]; kernel_rfl)
            · exact Reg.doesV_skip (by rw [hF]; kernel_rfl) (by rw [hF]; kernel_rfl)
            · exact Reg.doesV_skip (by rw [hF]; kernel_rfl) (by rw [hF]; kernel_rfl)
            · exact Reg.doesV_skip (by rw [hF]; kernel_rfl) (by rw [hF]; kernel_rfl)
            · exact Reg.doesV_skip (by rw [hF]; kernel_rfl) (by rw [hF]; kernel_rfl)
            · exact Reg.doesV_skip (by rw [hF]; kernel_rfl) (by rw [hF]; kernel_rfl)
            · exact Reg.doesV_skip (by rw [hF]; kernel_rfl) (by rw [hF]; kernel_rfl)
            · exact Reg.doesV_skip (by rw [hF]; kernel_rfl) (by rw [hF]; kernel_rfl)
            · exact Reg.doesV_val (ev_pick true rfl (by rw [hF]; kernel_rfl)) (by rw [hF]; kernel_rfl) (by rw [hF]; kernel_rfl)
          · intro w8 hB
            simp only [Reg.putAll, Act.put, List.setIfInBounds_toArray, List.set_cons_zero, List.set_cons_succ]
            have Hb2 := Lib.hid (hb.out.trans (hB.mono hb.out.size))
            clear hB
            go_wp2
            go_ret
            exact ⟨congrArg (fun z => Ending.returned (Value.bool z)) Hst2.out, Hb2.out⟩
        · cases hM : mayR xs
          · have Hst2 : Hid (false = R) := by
              have := Hst.out
              rw [okC_and] at this
              simp only [hN0, hF1, hM, Bool.not_false, Bool.true_and, Bool.false_and] at this
              exact Lib.hid this
            clear Hst
            refine Reg.wp_region_vals mixed (by kernel_rfl) [(10, .slice (some ⟨b, off, none⟩) n c), (11, .int .i64 (k : Nat)), (12, .pointer (some ⟨b, off + k * 2, none⟩)), (13, .pointer (some ⟨b, off + k * 2 + 1, none⟩)), (14, .int .i64 N), (15, .bool false), (16, .bool false), (17, .slice (some ⟨b, off, none⟩) n c), (18, .int .i64 (k : Nat)), (19, .pointer (some ⟨b, off + k * 2, none⟩)), (20, .pointer (some ⟨b, off + k * 2 + 1, none⟩)), (21, .int .i64 N), (22, .bool true), (23, .bool false), (24, .bool false), (25, .bool false), (26, .slice (some ⟨b, off, none⟩) n c), (27, .int .i64 (k : Nat)), (28, .pointer (some ⟨b, off + k * 2, none⟩)), (29, .pointer (some ⟨b, off + k * 2, none⟩)), (30, .slice xA xn xc), (31, .bool false), (32, .bool true), (33, .bool true), (34, .bool true), (35, undef), (36, undef), (37, undef), (38, undef), (39, undef), (40, undef), (41, undef), (42, undef), (43, undef), (44, undef), (45, undef), (46, undef), (47, undef), (48, undef), (49, undef), (50, undef), (51, undef), (52, .bool true)] 53 rfl (by kernel_rfl) ?_ ?_
            · intro F hF w' hB
              have j0 := (hB.cell (p := ⟨b, off + k * 2, none⟩) l0).trans d0.out
              have j1 := (hB.cell (p := ⟨b, off + k * 2 + 1, none⟩) l0).trans d1.out
              have ix := Hx.out.after hB
              refine ⟨?_, ?_, ?_, ?_, ?_, ?_, ?_, ?_, ?_, ?_, ?_, ?_, ?_, ?_, ?_, ?_, ?_, ?_, ?_, ?_, ?_, ?_, ?_, ?_, ?_, ?_, ?_, ?_, ?_, ?_, ?_, ?_, ?_, ?_, ?_, ?_, ?_, ?_, ?_, ?_, ?_, ?_, ?_, trivial⟩
              · exact Reg.doesV_val (ev_move rfl) (by rw [hF]; kernel_rfl) (by rw [hF]; kernel_rfl)
              · exact Reg.doesV_val (ev_move rfl) (by rw [hF]; kernel_rfl) (by rw [hF]; kernel_rfl)
              · exact Reg.doesV_val (ev_idxC (b := b) (off := off) (n := n) (c := c) (k := k) hlt rfl (by rw [hF]; kernel_rfl) (by rw [hF]; kernel_rfl)) (by rw [hF]; kernel_rfl) (by rw [hF]; kernel_rfl)
              · exact Reg.doesV_val (ev_c1 (b := b) (off := off + k * 2) rfl (by rw [hF]; kernel_rfl)) (by rw [hF]; kernel_rfl) (by rw [hF]; kernel_rfl)
              · exact Reg.doesV_val (ev_ldI (k := N) j1 rfl (by rw [hF]; kernel_rfl)) (by rw [hF]; kernel_rfl) (by rw [hF]; kernel_rfl)
              · exact Reg.doesV_val (by rw [ev_eqC5 N 0 rfl (by rw [hF]; kernel_rfl), hN0]) (by rw [hF]; kernel_rfl) (by rw [hF]; kernel_rfl)
              · exact Reg.doesV_val (ev_move rfl) (by rw [hF]; kernel_rfl) (by rw [hF]; kernel_rfl)
              · exact Reg.doesV_val (ev_move rfl) (by rw [hF]; kernel_rfl) (by rw [hF]; kernel_rfl)
              · exact Reg.doesV_val (ev_move rfl) (by rw [hF]; kernel_rfl) (by rw [hF]; kernel_rfl)
              · exact Reg.doesV_val (ev_idxC (b := b) (off := off) (n := n) (c := c) (k := k) hlt rfl (by rw [hF]; kernel_rfl) (by rw [hF]; kernel_rfl)) (by rw [hF]; kernel_rfl) (by rw [hF]; kernel_rfl)
              · exact Reg.doesV_val (ev_c1 (b := b) (off := off + k * 2) rfl (by rw [hF]; kernel_rfl)) (by rw [hF]; kernel_rfl) (by rw [hF]; kernel_rfl)
              · exact Reg.doesV_val (ev_ldI (k := N) j1 rfl (by rw [hF]; kernel_rfl)) (by rw [hF]; kernel_rfl) (by rw [hF]; kernel_rfl)
              · exact Reg.doesV_call (by have h := fits5_c N w'; rw [hF1] at h; exact h) (ev_call enRFits rfl (by rw [hF]; kernel_rfl)) (by rw [hF]; kernel_rfl) (by rw [hF]; kernel_rfl)
              · exact Reg.doesV_val (ev_not true rfl (by rw [hF]; kernel_rfl)) (by rw [hF]; kernel_rfl) (by rw [hF]; kernel_rfl)
              · exact Reg.doesV_val (ev_pick false rfl (by rw [hF]; kernel_rfl)) (by rw [hF]; kernel_rfl) (by rw [hF]; kernel_rfl)
              · exact Reg.doesV_val (ev_move rfl) (by rw [hF]; kernel_rfl) (by rw [hF]; kernel_rfl)
              · exact Reg.doesV_val (ev_move rfl) (by rw [hF]; kernel_rfl) (by rw [hF]; kernel_rfl)
              · exact Reg.doesV_val (ev_move rfl) (by rw [hF]; kernel_rfl) (by rw [hF]; kernel_rfl)
              · exact Reg.doesV_val (ev_idxC (b := b) (off := off) (n := n) (c := c) (k := k) hlt rfl (by rw [hF]; kernel_rfl) (by rw [hF]; kernel_rfl)) (by rw [hF]; kernel_rfl) (by rw [hF]; kernel_rfl)
              · exact Reg.doesV_val (ev_c0 (b := b) (off := off + k * 2) rfl (by rw [hF]; kernel_rfl)) (by rw [hF]; kernel_rfl) (by rw [hF]; kernel_rfl)
              · exact Reg.doesV_val (ev_ldR (A := xA) (n := xn) (c := xc) j0 rfl (by rw [hF]; kernel_rfl)) (by rw [hF]; kernel_rfl) (by rw [hF]; kernel_rfl)
              · exact Reg.doesV_call (by have h := rmayRow_c xA xn xc xs w' ix.hd.len ix.hd.max ix.hd.sl ix.sz; rw [rmay_mayR, hM] at h; exact h) (ev_call enR4May rfl (by rw [hF]; kernel_rfl)) (by rw [hF]; kernel_rfl) (by rw [hF]; kernel_rfl)
              · exact Reg.doesV_val (ev_not false rfl (by rw [hF]; kernel_rfl)) (by rw [hF]; kernel_rfl) (by rw [hF]; kernel_rfl)
              · exact Reg.doesV_val (ev_pick false rfl (by rw [hF]; kernel_rfl)) (by rw [hF]; kernel_rfl) (by rw [hF]; kernel_rfl)
              · exact Reg.doesV_val (ev_move rfl) (by rw [hF]; kernel_rfl) (by rw [hF]; kernel_rfl)
              · exact Reg.doesV_skip (by rw [hF]; kernel_rfl) (by rw [hF]; kernel_rfl)
              · exact Reg.doesV_skip (by rw [hF]; kernel_rfl) (by rw [hF]; kernel_rfl)
              · exact Reg.doesV_skip (by rw [hF]; kernel_rfl) (by rw [hF]; kernel_rfl)
              · exact Reg.doesV_skip (by rw [hF]; kernel_rfl) (by rw [hF]; kernel_rfl)
              · exact Reg.doesV_skip (by rw [hF]; kernel_rfl) (by rw [hF]; kernel_rfl)
              · exact Reg.doesV_skip (by rw [hF]; kernel_rfl) (by rw [hF]; kernel_rfl)
              · exact Reg.doesV_skip (by rw [hF]; kernel_rfl) (by rw [hF]; kernel_rfl)
              · exact Reg.doesV_skip (by rw [hF]; kernel_rfl) (by rw [hF]; kernel_rfl)
              · exact Reg.doesV_skip (by rw [hF]; kernel_rfl) (by rw [hF]; kernel_rfl)
              · exact Reg.doesV_skip (by rw [hF]; kernel_rfl) (by rw [hF]; kernel_rfl)
              · exact Reg.doesV_skip (by rw [hF]; kernel_rfl) (by rw [hF]; kernel_rfl)
              · exact Reg.doesV_skip (by rw [hF]; kernel_rfl) (by rw [hF]; kernel_rfl)
              · exact Reg.doesV_skip (by rw [hF]; kernel_rfl) (by rw [hF]; kernel_rfl)
              · exact Reg.doesV_skip (by rw [hF]; kernel_rfl) (by rw [hF]; kernel_rfl)
              · exact Reg.doesV_skip (by rw [hF]; kernel_rfl) (by rw [hF]; kernel_rfl)
              · exact Reg.doesV_skip (by rw [hF]; kernel_rfl) (by rw [hF]; kernel_rfl)
              · exact Reg.doesV_skip (by rw [hF]; kernel_rfl) (by rw [hF]; kernel_rfl)
              · exact Reg.doesV_val (ev_pick true rfl (by rw [hF]; kernel_rfl)) (by rw [hF]; kernel_rfl) (by rw [hF]; kernel_rfl)
            · intro w8 hB
              simp only [Reg.putAll, Act.put, List.setIfInBounds_toArray, List.set_cons_zero, List.set_cons_succ]
              have Hb2 := Lib.hid (hb.out.trans (hB.mono hb.out.size))
              clear hB
              go_wp2
              go_ret
              exact ⟨congrArg (fun z => Ending.returned (Value.bool z)) Hst2.out, Hb2.out⟩
          · cases hk0 : decide (0 < (k : Int))
            · have hk1 : k = 0 := by have := of_decide_eq_false hk0; omega
              have hp0 : prevOf (pl cs) k = none := by rw [hk1]; rfl
              have Hst2 : Hid (mayFrom (prevOf (pl cs) (k + 1)) ((pl cs).drop (k + 1)) = R) := by
                have := Hst.out
                rw [okC_and] at this
                simp only [hN0, hF1, hM, hp0, Bool.not_false, Bool.true_and] at this
                exact Lib.hid this
              clear Hst
              clear hp0 hk1
              refine Reg.wp_region_vals mixed (by kernel_rfl) [(10, .slice (some ⟨b, off, none⟩) n c), (11, .int .i64 (k : Nat)), (12, .pointer (some ⟨b, off + k * 2, none⟩)), (13, .pointer (some ⟨b, off + k * 2 + 1, none⟩)), (14, .int .i64 N), (15, .bool false), (16, .bool false), (17, .slice (some ⟨b, off, none⟩) n c), (18, .int .i64 (k : Nat)), (19, .pointer (some ⟨b, off + k * 2, none⟩)), (20, .pointer (some ⟨b, off + k * 2 + 1, none⟩)), (21, .int .i64 N), (22, .bool true), (23, .bool false), (24, .bool false), (25, .bool false), (26, .slice (some ⟨b, off, none⟩) n c), (27, .int .i64 (k : Nat)), (28, .pointer (some ⟨b, off + k * 2, none⟩)), (29, .pointer (some ⟨b, off + k * 2, none⟩)), (30, .slice xA xn xc), (31, .bool true), (32, .bool false), (33, .bool false), (34, .bool false), (35, .int .i64 (k : Nat)), (36, .bool false), (37, .bool false), (38, undef), (39, undef), (40, undef), (41, undef), (42, undef), (43, undef), (44, undef), (45, undef), (46, undef), (47, undef), (48, undef), (49, undef), (50, undef), (51, .bool false), (52, .bool false)] 53 rfl (by kernel_rfl) ?_ ?_
              · intro F hF w' hB
                have j0 := (hB.cell (p := ⟨b, off + k * 2, none⟩) l0).trans d0.out
                have j1 := (hB.cell (p := ⟨b, off + k * 2 + 1, none⟩) l0).trans d1.out
                have ix := Hx.out.after hB
                refine ⟨?_, ?_, ?_, ?_, ?_, ?_, ?_, ?_, ?_, ?_, ?_, ?_, ?_, ?_, ?_, ?_, ?_, ?_, ?_, ?_, ?_, ?_, ?_, ?_, ?_, ?_, ?_, ?_, ?_, ?_, ?_, ?_, ?_, ?_, ?_, ?_, ?_, ?_, ?_, ?_, ?_, ?_, ?_, trivial⟩
                · exact Reg.doesV_val (ev_move rfl) (by rw [hF]; kernel_rfl) (by rw [hF]; kernel_rfl)
                · exact Reg.doesV_val (ev_move rfl) (by rw [hF]; kernel_rfl) (by rw [hF]; kernel_rfl)
                · exact Reg.doesV_val (ev_idxC (b := b) (off := off) (n := n) (c := c) (k := k) hlt rfl (by rw [hF]; kernel_rfl) (by rw [hF]; kernel_rfl)) (by rw [hF]; kernel_rfl) (by rw [hF]; kernel_rfl)
                · exact Reg.doesV_val (ev_c1 (b := b) (off := off + k * 2) rfl (by rw [hF]; kernel_rfl)) (by rw [hF]; kernel_rfl) (by rw [hF]; kernel_rfl)
                · exact Reg.doesV_val (ev_ldI (k := N) j1 rfl (by rw [hF]; kernel_rfl)) (by rw [hF]; kernel_rfl) (by rw [hF]; kernel_rfl)
                · exact Reg.doesV_val (by rw [ev_eqC5 N 0 rfl (by rw [hF]; kernel_rfl), hN0]) (by rw [hF]; kernel_rfl) (by rw [hF]; kernel_rfl)
                · exact Reg.doesV_val (ev_move rfl) (by rw [hF]; kernel_rfl) (by rw [hF]; kernel_rfl)
                · exact Reg.doesV_val (ev_move rfl) (by rw [hF]; kernel_rfl) (by rw [hF]; kernel_rfl)
                · exact Reg.doesV_val (ev_move rfl) (by rw [hF]; kernel_rfl) (by rw [hF]; kernel_rfl)
                · exact Reg.doesV_val (ev_idxC (b := b) (off := off) (n := n) (c := c) (k := k) hlt rfl (by rw [hF]; kernel_rfl) (by rw [hF]; kernel_rfl)) (by rw [hF]; kernel_rfl) (by rw [hF]; kernel_rfl)
                · exact Reg.doesV_val (ev_c1 (b := b) (off := off + k * 2) rfl (by rw [hF]; kernel_rfl)) (by rw [hF]; kernel_rfl) (by rw [hF]; kernel_rfl)
                · exact Reg.doesV_val (ev_ldI (k := N) j1 rfl (by rw [hF]; kernel_rfl)) (by rw [hF]; kernel_rfl) (by rw [hF]; kernel_rfl)
                · exact Reg.doesV_call (by have h := fits5_c N w'; rw [hF1] at h; exact h) (ev_call enRFits rfl (by rw [hF]; kernel_rfl)) (by rw [hF]; kernel_rfl) (by rw [hF]; kernel_rfl)
                · exact Reg.doesV_val (ev_not true rfl (by rw [hF]; kernel_rfl)) (by rw [hF]; kernel_rfl) (by rw [hF]; kernel_rfl)
                · exact Reg.doesV_val (ev_pick false rfl (by rw [hF]; kernel_rfl)) (by rw [hF]; kernel_rfl) (by rw [hF]; kernel_rfl)
                · exact Reg.doesV_val (ev_move rfl) (by rw [hF]; kernel_rfl) (by rw [hF]; kernel_rfl)
                · exact Reg.doesV_val (ev_move rfl) (by rw [hF]; kernel_rfl) (by rw [hF]; kernel_rfl)
                · exact Reg.doesV_val (ev_move rfl) (by rw [hF]; kernel_rfl) (by rw [hF]; kernel_rfl)
                · exact Reg.doesV_val (ev_idxC (b := b) (off := off) (n := n) (c := c) (k := k) hlt rfl (by rw [hF]; kernel_rfl) (by rw [hF]; kernel_rfl)) (by rw [hF]; kernel_rfl) (by rw [hF]; kernel_rfl)
                · exact Reg.doesV_val (ev_c0 (b := b) (off := off + k * 2) rfl (by rw [hF]; kernel_rfl)) (by rw [hF]; kernel_rfl) (by rw [hF]; kernel_rfl)
                · exact Reg.doesV_val (ev_ldR (A := xA) (n := xn) (c := xc) j0 rfl (by rw [hF]; kernel_rfl)) (by rw [hF]; kernel_rfl) (by rw [hF]; kernel_rfl)
                · exact Reg.doesV_call (by have h := rmayRow_c xA xn xc xs w' ix.hd.len ix.hd.max ix.hd.sl ix.sz; rw [rmay_mayR, hM] at h; exact h) (ev_call enR4May rfl (by rw [hF]; kernel_rfl)) (by rw [hF]; kernel_rfl) (by rw [hF]; kernel_rfl)
                · exact Reg.doesV_val (ev_not true rfl (by rw [hF]; kernel_rfl)) (by rw [hF]; kernel_rfl) (by rw [hF]; kernel_rfl)
                · exact Reg.doesV_val (ev_pick false rfl (by rw [hF]; kernel_rfl)) (by rw [hF]; kernel_rfl) (by rw [hF]; kernel_rfl)
                · exact Reg.doesV_val (ev_move rfl) (by rw [hF]; kernel_rfl) (by rw [hF]; kernel_rfl)
                · exact Reg.doesV_val (ev_move rfl) (by rw [hF]; kernel_rfl) (by rw [hF]; kernel_rfl)
                · exact Reg.doesV_val (by rw [ev_gtC5 (k : Int) 0 rfl (by rw [hF]; kernel_rfl), hk0]) (by rw [hF]; kernel_rfl) (by rw [hF]; kernel_rfl)
                · exact Reg.doesV_val (ev_move rfl) (by rw [hF]; kernel_rfl) (by rw [hF]; kernel_rfl)
                · exact Reg.doesV_skip (by rw [hF]; kernel_rfl) (by rw [hF]; kernel_rfl)
                · exact Reg.doesV_skip (by rw [hF]; kernel_rfl) (by rw [hF]; kernel_rfl)
                · exact Reg.doesV_skip (by rw [hF]; kernel_rfl) (by rw [hF]; kernel_rfl)
                · exact Reg.doesV_skip (by rw [hF]; kernel_rfl) (by rw [hF]; kernel_rfl)
                · exact Reg.doesV_skip (by rw [hF]; kernel_rfl) (by rw [hF]; kernel_rfl)
                · exact Reg.doesV_skip (by rw [hF]; kernel_rfl) (by rw [hF]; kernel_rfl)
                · exact Reg.doesV_skip (by rw [hF]; kernel_rfl) (by rw [hF]; kernel_rfl)
                · exact Reg.doesV_skip (by rw [hF]; kernel_rfl) (by rw [hF]; kernel_rfl)
                · exact Reg.doesV_skip (by rw [hF]; kernel_rfl) (by rw [hF]; kernel_rfl)
                · exact Reg.doesV_skip (by rw [hF]; kernel_rfl) (by rw [hF]; kernel_rfl)
                · exact Reg.doesV_skip (by rw [hF]; kernel_rfl) (by rw [hF]; kernel_rfl)
                · exact Reg.doesV_skip (by rw [hF]; kernel_rfl) (by rw [hF]; kernel_rfl)
                · exact Reg.doesV_skip (by rw [hF]; kernel_rfl) (by rw [hF]; kernel_rfl)
                · exact Reg.doesV_val (ev_pick false rfl (by rw [hF]; kernel_rfl)) (by rw [hF]; kernel_rfl) (by rw [hF]; kernel_rfl)
                · exact Reg.doesV_val (ev_pick false rfl (by rw [hF]; kernel_rfl)) (by rw [hF]; kernel_rfl) (by rw [hF]; kernel_rfl)
              · intro w8 hB
                simp only [Reg.putAll, Act.put, List.setIfInBounds_toArray, List.set_cons_zero, List.set_cons_succ]
                have Hb2 := Lib.hid (hb.out.trans (hB.mono hb.out.size))
                clear hB
                go_wp2
                go_roundw
                case rel => exact ⟨k + 1, by omega, by go_num, Hb2, Hst2⟩
                case measure => simp [intOf]; omega
            · obtain ⟨j, hkj⟩ : ∃ j, k = j + 1 := ⟨k - 1, by have := of_decide_eq_true hk0; omega⟩
              have hjn : j < n := by omega
              have hjx : k ≤ 9223372036854775807 := by omega
              obtain ⟨⟨⟨yA, yn, yc, ys⟩, yN⟩, hp, hy, dq⟩ := hprev.out j hkj
              have Hy := Lib.hid hy
              have dq := Lib.hid dq
              clear hy
              cases hC : decide (0 ≤ cmpL ys xs)
              · have hC2 : decide (cmpL ys xs < 0) = true := by have := of_decide_eq_false hC; exact decide_eq_true (by omega)
                have Hst2 : Hid (mayFrom (prevOf (pl cs) (k + 1)) ((pl cs).drop (k + 1)) = R) := by
                  have := Hst.out
                  rw [okC_and] at this
                  simp only [hN0, hF1, hM, hp, hC2, Bool.not_false, Bool.true_and] at this
                  exact Lib.hid this
                clear Hst
                clear hp hC2
                refine Reg.wp_region_vals mixed (by kernel_rfl) [(10, .slice (some ⟨b, off, none⟩) n c), (11, .int .i64 (k : Nat)), (12, .pointer (some ⟨b, off + k * 2, none⟩)), (13, .pointer (some ⟨b, off + k * 2 + 1, none⟩)), (14, .int .i64 N), (15, .bool false), (16, .bool false), (17, .slice (some ⟨b, off, none⟩) n c), (18, .int .i64 (k : Nat)), (19, .pointer (some ⟨b, off + k * 2, none⟩)), (20, .pointer (some ⟨b, off + k * 2 + 1, none⟩)), (21, .int .i64 N), (22, .bool true), (23, .bool false), (24, .bool false), (25, .bool false), (26, .slice (some ⟨b, off, none⟩) n c), (27, .int .i64 (k : Nat)), (28, .pointer (some ⟨b, off + k * 2, none⟩)), (29, .pointer (some ⟨b, off + k * 2, none⟩)), (30, .slice xA xn xc), (31, .bool true), (32, .bool false), (33, .bool false), (34, .bool false), (35, .int .i64 (k : Nat)), (36, .bool true), (37, .bool true), (38, .slice (some ⟨b, off, none⟩) n c), (39, .int .i64 (k : Nat)), (40, .int .i64 (j : Nat)), (41, .pointer (some ⟨b, off + j * 2, none⟩)), (42, .pointer (some ⟨b, off + j * 2, none⟩)), (43, .slice yA yn yc), (44, .slice (some ⟨b, off, none⟩) n c), (45, .int .i64 (k : Nat)), (46, .pointer (some ⟨b, off + k * 2, none⟩)), (47, .pointer (some ⟨b, off + k * 2, none⟩)), (48, .slice xA xn xc), (49, .int .i64 (cmpL ys xs)), (50, .bool false), (51, .bool false), (52, .bool false)] 53 rfl (by kernel_rfl) ?_ ?_
                · intro F hF w' hB
                  have j0 := (hB.cell (p := ⟨b, off + k * 2, none⟩) l0).trans d0.out
                  have j1 := (hB.cell (p := ⟨b, off + k * 2 + 1, none⟩) l0).trans d1.out
                  have ix := Hx.out.after hB
                  have q0 := (hB.cell (p := ⟨b, off + j * 2, none⟩) l0).trans dq.out
                  have iy := Hy.out.after hB
                  refine ⟨?_, ?_, ?_, ?_, ?_, ?_, ?_, ?_, ?_, ?_, ?_, ?_, ?_, ?_, ?_, ?_, ?_, ?_, ?_, ?_, ?_, ?_, ?_, ?_, ?_, ?_, ?_, ?_, ?_, ?_, ?_, ?_, ?_, ?_, ?_, ?_, ?_, ?_, ?_, ?_, ?_, ?_, ?_, trivial⟩
                  · exact Reg.doesV_val (ev_move rfl) (by rw [hF]; kernel_rfl) (by rw [hF]; kernel_rfl)
                  · exact Reg.doesV_val (ev_move rfl) (by rw [hF]; kernel_rfl) (by rw [hF]; kernel_rfl)
                  · exact Reg.doesV_val (ev_idxC (b := b) (off := off) (n := n) (c := c) (k := k) hlt rfl (by rw [hF]; kernel_rfl) (by rw [hF]; kernel_rfl)) (by rw [hF]; kernel_rfl) (by rw [hF]; kernel_rfl)
                  · exact Reg.doesV_val (ev_c1 (b := b) (off := off + k * 2) rfl (by rw [hF]; kernel_rfl)) (by rw [hF]; kernel_rfl) (by rw [hF]; kernel_rfl)
                  · exact Reg.doesV_val (ev_ldI (k := N) j1 rfl (by rw [hF]; kernel_rfl)) (by rw [hF]; kernel_rfl) (by rw [hF]; kernel_rfl)
                  · exact Reg.doesV_val (by rw [ev_eqC5 N 0 rfl (by rw [hF]; kernel_rfl), hN0]) (by rw [hF]; kernel_rfl) (by rw [hF]; kernel_rfl)
                  · exact Reg.doesV_val (ev_move rfl) (by rw [hF]; kernel_rfl) (by rw [hF]; kernel_rfl)
                  · exact Reg.doesV_val (ev_move rfl) (by rw [hF]; kernel_rfl) (by rw [hF]; kernel_rfl)
                  · exact Reg.doesV_val (ev_move rfl) (by rw [hF]; kernel_rfl) (by rw [hF]; kernel_rfl)
                  · exact Reg.doesV_val (ev_idxC (b := b) (off := off) (n := n) (c := c) (k := k) hlt rfl (by rw [hF]; kernel_rfl) (by rw [hF]; kernel_rfl)) (by rw [hF]; kernel_rfl) (by rw [hF]; kernel_rfl)
                  · exact Reg.doesV_val (ev_c1 (b := b) (off := off + k * 2) rfl (by rw [hF]; kernel_rfl)) (by rw [hF]; kernel_rfl) (by rw [hF]; kernel_rfl)
                  · exact Reg.doesV_val (ev_ldI (k := N) j1 rfl (by rw [hF]; kernel_rfl)) (by rw [hF]; kernel_rfl) (by rw [hF]; kernel_rfl)
                  · exact Reg.doesV_call (by have h := fits5_c N w'; rw [hF1] at h; exact h) (ev_call enRFits rfl (by rw [hF]; kernel_rfl)) (by rw [hF]; kernel_rfl) (by rw [hF]; kernel_rfl)
                  · exact Reg.doesV_val (ev_not true rfl (by rw [hF]; kernel_rfl)) (by rw [hF]; kernel_rfl) (by rw [hF]; kernel_rfl)
                  · exact Reg.doesV_val (ev_pick false rfl (by rw [hF]; kernel_rfl)) (by rw [hF]; kernel_rfl) (by rw [hF]; kernel_rfl)
                  · exact Reg.doesV_val (ev_move rfl) (by rw [hF]; kernel_rfl) (by rw [hF]; kernel_rfl)
                  · exact Reg.doesV_val (ev_move rfl) (by rw [hF]; kernel_rfl) (by rw [hF]; kernel_rfl)
                  · exact Reg.doesV_val (ev_move rfl) (by rw [hF]; kernel_rfl) (by rw [hF]; kernel_rfl)
                  · exact Reg.doesV_val (ev_idxC (b := b) (off := off) (n := n) (c := c) (k := k) hlt rfl (by rw [hF]; kernel_rfl) (by rw [hF]; kernel_rfl)) (by rw [hF]; kernel_rfl) (by rw [hF]; kernel_rfl)
                  · exact Reg.doesV_val (ev_c0 (b := b) (off := off + k * 2) rfl (by rw [hF]; kernel_rfl)) (by rw [hF]; kernel_rfl) (by rw [hF]; kernel_rfl)
                  · exact Reg.doesV_val (ev_ldR (A := xA) (n := xn) (c := xc) j0 rfl (by rw [hF]; kernel_rfl)) (by rw [hF]; kernel_rfl) (by rw [hF]; kernel_rfl)
                  · exact Reg.doesV_call (by have h := rmayRow_c xA xn xc xs w' ix.hd.len ix.hd.max ix.hd.sl ix.sz; rw [rmay_mayR, hM] at h; exact h) (ev_call enR4May rfl (by rw [hF]; kernel_rfl)) (by rw [hF]; kernel_rfl) (by rw [hF]; kernel_rfl)
                  · exact Reg.doesV_val (ev_not true rfl (by rw [hF]; kernel_rfl)) (by rw [hF]; kernel_rfl) (by rw [hF]; kernel_rfl)
                  · exact Reg.doesV_val (ev_pick false rfl (by rw [hF]; kernel_rfl)) (by rw [hF]; kernel_rfl) (by rw [hF]; kernel_rfl)
                  · exact Reg.doesV_val (ev_move rfl) (by rw [hF]; kernel_rfl) (by rw [hF]; kernel_rfl)
                  · exact Reg.doesV_val (ev_move rfl) (by rw [hF]; kernel_rfl) (by rw [hF]; kernel_rfl)
                  · exact Reg.doesV_val (by rw [ev_gtC5 (k : Int) 0 rfl (by rw [hF]; kernel_rfl), hk0]) (by rw [hF]; kernel_rfl) (by rw [hF]; kernel_rfl)
                  · exact Reg.doesV_val (ev_move rfl) (by rw [hF]; kernel_rfl) (by rw [hF]; kernel_rfl)
                  · exact Reg.doesV_val (ev_move rfl) (by rw [hF]; kernel_rfl) (by rw [hF]; kernel_rfl)
                  · exact Reg.doesV_val (ev_move rfl) (by rw [hF]; kernel_rfl) (by rw [hF]; kernel_rfl)
                  · exact Reg.doesV_val (ev_dec5 k j hkj hjx rfl (by rw [hF]; kernel_rfl)) (by rw [hF]; kernel_rfl) (by rw [hF]; kernel_rfl)
                  · exact Reg.doesV_val (ev_idxC (b := b) (off := off) (n := n) (c := c) (k := j) hjn rfl (by rw [hF]; kernel_rfl) (by rw [hF]; kernel_rfl)) (by rw [hF]; kernel_rfl) (by rw [hF]; kernel_rfl)
                  · exact Reg.doesV_val (ev_c0 (b := b) (off := off + j * 2) rfl (by rw [hF]; kernel_rfl)) (by rw [hF]; kernel_rfl) (by rw [hF]; kernel_rfl)
                  · exact Reg.doesV_val (ev_ldR (A := yA) (n := yn) (c := yc) q0 rfl (by rw [hF]; kernel_rfl)) (by rw [hF]; kernel_rfl) (by rw [hF]; kernel_rfl)
                  · exact Reg.doesV_val (ev_move rfl) (by rw [hF]; kernel_rfl) (by rw [hF]; kernel_rfl)
                  · exact Reg.doesV_val (ev_move rfl) (by rw [hF]; kernel_rfl) (by rw [hF]; kernel_rfl)
                  · exact Reg.doesV_val (ev_idxC (b := b) (off := off) (n := n) (c := c) (k := k) hlt rfl (by rw [hF]; kernel_rfl) (by rw [hF]; kernel_rfl)) (by rw [hF]; kernel_rfl) (by rw [hF]; kernel_rfl)
                  · exact Reg.doesV_val (ev_c0 (b := b) (off := off + k * 2) rfl (by rw [hF]; kernel_rfl)) (by rw [hF]; kernel_rfl) (by rw [hF]; kernel_rfl)
                  · exact Reg.doesV_val (ev_ldR (A := xA) (n := xn) (c := xc) j0 rfl (by rw [hF]; kernel_rfl)) (by rw [hF]; kernel_rfl) (by rw [hF]; kernel_rfl)
                  · exact Reg.doesV_call (rcompareL_c yA xA yn xn yc xc ys xs w' iy.hd.len ix.hd.len iy.hd.max ix.hd.max iy.hd.sl ix.hd.sl) (ev_call enRCompareL rfl (by rw [hF]; kernel_rfl)) (by rw [hF]; kernel_rfl) (by rw [hF]; kernel_rfl)
                  · exact Reg.doesV_val (by rw [ev_geC5 (cmpL ys xs) 0 rfl (by rw [hF]; kernel_rfl), hC]) (by rw [hF]; kernel_rfl) (by rw [hF]; kernel_rfl)
                  · exact Reg.doesV_val (ev_pick true rfl (by rw [hF]; kernel_rfl)) (by rw [hF]; kernel_rfl) (by rw [hF]; kernel_rfl)
                  · exact Reg.doesV_val (ev_pick false rfl (by rw [hF]; kernel_rfl)) (by rw [hF]; kernel_rfl) (by rw [hF]; kernel_rfl)
                · intro w8 hB
                  simp only [Reg.putAll, Act.put, List.setIfInBounds_toArray, List.set_cons_zero, List.set_cons_succ]
                  have Hb2 := Lib.hid (hb.out.trans (hB.mono hb.out.size))
                  clear hB
                  go_wp2
                  go_roundw
                  case rel => exact ⟨k + 1, by omega, by go_num, Hb2, Hst2⟩
                  case measure => simp [intOf]; omega
              · have hC2 : decide (cmpL ys xs < 0) = false := by have := of_decide_eq_true hC; exact decide_eq_false (by omega)
                have Hst2 : Hid (false = R) := by
                  have := Hst.out
                  rw [okC_and] at this
                  simp only [hN0, hF1, hM, hp, hC2, Bool.not_false, Bool.true_and, Bool.false_and] at this
                  exact Lib.hid this
                clear Hst
                clear hp hC2
                refine Reg.wp_region_vals mixed (by kernel_rfl) [(10, .slice (some ⟨b, off, none⟩) n c), (11, .int .i64 (k : Nat)), (12, .pointer (some ⟨b, off + k * 2, none⟩)), (13, .pointer (some ⟨b, off + k * 2 + 1, none⟩)), (14, .int .i64 N), (15, .bool false), (16, .bool false), (17, .slice (some ⟨b, off, none⟩) n c), (18, .int .i64 (k : Nat)), (19, .pointer (some ⟨b, off + k * 2, none⟩)), (20, .pointer (some ⟨b, off + k * 2 + 1, none⟩)), (21, .int .i64 N), (22, .bool true), (23, .bool false), (24, .bool false), (25, .bool false), (26, .slice (some ⟨b, off, none⟩) n c), (27, .int .i64 (k : Nat)), (28, .pointer (some ⟨b, off + k * 2, none⟩)), (29, .pointer (some ⟨b, off + k * 2, none⟩)), (30, .slice xA xn xc), (31, .bool true), (32, .bool false), (33, .bool false), (34, .bool false), (35, .int .i64 (k : Nat)), (36, .bool true), (37, .bool true), (38, .slice (some ⟨b, off, none⟩) n c), (39, .int .i64 (k : Nat)), (40, .int .i64 (j : Nat)), (41, .pointer (some ⟨b, off + j * 2, none⟩)), (42, .pointer (some ⟨b, off + j * 2, none⟩)), (43, .slice yA yn yc), (44, .slice (some ⟨b, off, none⟩) n c), (45, .int .i64 (k : Nat)), (46, .pointer (some ⟨b, off + k * 2, none⟩)), (47, .pointer (some ⟨b, off + k * 2, none⟩)), (48, .slice xA xn xc), (49, .int .i64 (cmpL ys xs)), (50, .bool true), (51, .bool true), (52, .bool true)] 53 rfl (by kernel_rfl) ?_ ?_
                · intro F hF w' hB
                  have j0 := (hB.cell (p := ⟨b, off + k * 2, none⟩) l0).trans d0.out
                  have j1 := (hB.cell (p := ⟨b, off + k * 2 + 1, none⟩) l0).trans d1.out
                  have ix := Hx.out.after hB
                  have q0 := (hB.cell (p := ⟨b, off + j * 2, none⟩) l0).trans dq.out
                  have iy := Hy.out.after hB
                  refine ⟨?_, ?_, ?_, ?_, ?_, ?_, ?_, ?_, ?_, ?_, ?_, ?_, ?_, ?_, ?_, ?_, ?_, ?_, ?_, ?_, ?_, ?_, ?_, ?_, ?_, ?_, ?_, ?_, ?_, ?_, ?_, ?_, ?_, ?_, ?_, ?_, ?_, ?_, ?_, ?_, ?_, ?_, ?_, trivial⟩
                  · exact Reg.doesV_val (ev_move rfl) (by rw [hF]; kernel_rfl) (by rw [hF]; kernel_rfl)
                  · exact Reg.doesV_val (ev_move rfl) (by rw [hF]; kernel_rfl) (by rw [hF]; kernel_rfl)
                  · exact Reg.doesV_val (ev_idxC (b := b) (off := off) (n := n) (c := c) (k := k) hlt rfl (by rw [hF]; kernel_rfl) (by rw [hF]; kernel_rfl)) (by rw [hF]; kernel_rfl) (by rw [hF]; kernel_rfl)
                  · exact Reg.doesV_val (ev_c1 (b := b) (off := off + k * 2) rfl (by rw [hF]; kernel_rfl)) (by rw [hF]; kernel_rfl) (by rw [hF]; kernel_rfl)
                  · exact Reg.doesV_val (ev_ldI (k := N) j1 rfl (by rw [hF]; kernel_rfl)) (by rw [hF]; kernel_rfl) (by rw [hF]; kernel_rfl)
                  · exact Reg.doesV_val (by rw [ev_eqC5 N 0 rfl (by rw [hF]; kernel_rfl), hN0]) (by rw [hF]; kernel_rfl) (by rw [hF]; kernel_rfl)
                  · exact Reg.doesV_val (ev_move rfl) (by rw [hF]; kernel_rfl) (by rw [hF]; kernel_rfl)
                  · exact Reg.doesV_val (ev_move rfl) (by rw [hF]; kernel_rfl) (by rw [hF]; kernel_rfl)
                  · exact Reg.doesV_val (ev_move rfl) (by rw [hF]; kernel_rfl) (by rw [hF]; kernel_rfl)
                  · exact Reg.doesV_val (ev_idxC (b := b) (off := off) (n := n) (c := c) (k := k) hlt rfl (by rw [hF]; kernel_rfl) (by rw [hF]; kernel_rfl)) (by rw [hF]; kernel_rfl) (by rw [hF]; kernel_rfl)
                  · exact Reg.doesV_val (ev_c1 (b := b) (off := off + k * 2) rfl (by rw [hF]; kernel_rfl)) (by rw [hF]; kernel_rfl) (by rw [hF]; kernel_rfl)
                  · exact Reg.doesV_val (ev_ldI (k := N) j1 rfl (by rw [hF]; kernel_rfl)) (by rw [hF]; kernel_rfl) (by rw [hF]; kernel_rfl)
                  · exact Reg.doesV_call (by have h := fits5_c N w'; rw [hF1] at h; exact h) (ev_call enRFits rfl (by rw [hF]; kernel_rfl)) (by rw [hF]; kernel_rfl) (by rw [hF]; kernel_rfl)
                  · exact Reg.doesV_val (ev_not true rfl (by rw [hF]; kernel_rfl)) (by rw [hF]; kernel_rfl) (by rw [hF]; kernel_rfl)
                  · exact Reg.doesV_val (ev_pick false rfl (by rw [hF]; kernel_rfl)) (by rw [hF]; kernel_rfl) (by rw [hF]; kernel_rfl)
                  · exact Reg.doesV_val (ev_move rfl) (by rw [hF]; kernel_rfl) (by rw [hF]; kernel_rfl)
                  · exact Reg.doesV_val (ev_move rfl) (by rw [hF]; kernel_rfl) (by rw [hF]; kernel_rfl)
                  · exact Reg.doesV_val (ev_move rfl) (by rw [hF]; kernel_rfl) (by rw [hF]; kernel_rfl)
                  · exact Reg.doesV_val (ev_idxC (b := b) (off := off) (n := n) (c := c) (k := k) hlt rfl (by rw [hF]; kernel_rfl) (by rw [hF]; kernel_rfl)) (by rw [hF]; kernel_rfl) (by rw [hF]; kernel_rfl)
                  · exact Reg.doesV_val (ev_c0 (b := b) (off := off + k * 2) rfl (by rw [hF]; kernel_rfl)) (by rw [hF]; kernel_rfl) (by rw [hF]; kernel_rfl)
                  · exact Reg.doesV_val (ev_ldR (A := xA) (n := xn) (c := xc) j0 rfl (by rw [hF]; kernel_rfl)) (by rw [hF]; kernel_rfl) (by rw [hF]; kernel_rfl)
                  · exact Reg.doesV_call (by have h := rmayRow_c xA xn xc xs w' ix.hd.len ix.hd.max ix.hd.sl ix.sz; rw [rmay_mayR, hM] at h; exact h) (ev_call enR4May rfl (by rw [hF]; kernel_rfl)) (by rw [hF]; kernel_rfl) (by rw [hF]; kernel_rfl)
                  · exact Reg.doesV_val (ev_not true rfl (by rw [hF]; kernel_rfl)) (by rw [hF]; kernel_rfl) (by rw [hF]; kernel_rfl)
                  · exact Reg.doesV_val (ev_pick false rfl (by rw [hF]; kernel_rfl)) (by rw [hF]; kernel_rfl) (by rw [hF]; kernel_rfl)
                  · exact Reg.doesV_val (ev_move rfl) (by rw [hF]; kernel_rfl) (by rw [hF]; kernel_rfl)
                  · exact Reg.doesV_val (ev_move rfl) (by rw [hF]; kernel_rfl) (by rw [hF]; kernel_rfl)
                  · exact Reg.doesV_val (by rw [ev_gtC5 (k : Int) 0 rfl (by rw [hF]; kernel_rfl), hk0]) (by rw [hF]; kernel_rfl) (by rw [hF]; kernel_rfl)
                  · exact Reg.doesV_val (ev_move rfl) (by rw [hF]; kernel_rfl) (by rw [hF]; kernel_rfl)
                  · exact Reg.doesV_val (ev_move rfl) (by rw [hF]; kernel_rfl) (by rw [hF]; kernel_rfl)
                  · exact Reg.doesV_val (ev_move rfl) (by rw [hF]; kernel_rfl) (by rw [hF]; kernel_rfl)
                  · exact Reg.doesV_val (ev_dec5 k j hkj hjx rfl (by rw [hF]; kernel_rfl)) (by rw [hF]; kernel_rfl) (by rw [hF]; kernel_rfl)
                  · exact Reg.doesV_val (ev_idxC (b := b) (off := off) (n := n) (c := c) (k := j) hjn rfl (by rw [hF]; kernel_rfl) (by rw [hF]; kernel_rfl)) (by rw [hF]; kernel_rfl) (by rw [hF]; kernel_rfl)
                  · exact Reg.doesV_val (ev_c0 (b := b) (off := off + j * 2) rfl (by rw [hF]; kernel_rfl)) (by rw [hF]; kernel_rfl) (by rw [hF]; kernel_rfl)
                  · exact Reg.doesV_val (ev_ldR (A := yA) (n := yn) (c := yc) q0 rfl (by rw [hF]; kernel_rfl)) (by rw [hF]; kernel_rfl) (by rw [hF]; kernel_rfl)
                  · exact Reg.doesV_val (ev_move rfl) (by rw [hF]; kernel_rfl) (by rw [hF]; kernel_rfl)
                  · exact Reg.doesV_val (ev_move rfl) (by rw [hF]; kernel_rfl) (by rw [hF]; kernel_rfl)
                  · exact Reg.doesV_val (ev_idxC (b := b) (off := off) (n := n) (c := c) (k := k) hlt rfl (by rw [hF]; kernel_rfl) (by rw [hF]; kernel_rfl)) (by rw [hF]; kernel_rfl) (by rw [hF]; kernel_rfl)
                  · exact Reg.doesV_val (ev_c0 (b := b) (off := off + k * 2) rfl (by rw [hF]; kernel_rfl)) (by rw [hF]; kernel_rfl) (by rw [hF]; kernel_rfl)
                  · exact Reg.doesV_val (ev_ldR (A := xA) (n := xn) (c := xc) j0 rfl (by rw [hF]; kernel_rfl)) (by rw [hF]; kernel_rfl) (by rw [hF]; kernel_rfl)
                  · exact Reg.doesV_call (rcompareL_c yA xA yn xn yc xc ys xs w' iy.hd.len ix.hd.len iy.hd.max ix.hd.max iy.hd.sl ix.hd.sl) (ev_call enRCompareL rfl (by rw [hF]; kernel_rfl)) (by rw [hF]; kernel_rfl) (by rw [hF]; kernel_rfl)
                  · exact Reg.doesV_val (by rw [ev_geC5 (cmpL ys xs) 0 rfl (by rw [hF]; kernel_rfl), hC]) (by rw [hF]; kernel_rfl) (by rw [hF]; kernel_rfl)
                  · exact Reg.doesV_val (ev_pick true rfl (by rw [hF]; kernel_rfl)) (by rw [hF]; kernel_rfl) (by rw [hF]; kernel_rfl)
                  · exact Reg.doesV_val (ev_pick false rfl (by rw [hF]; kernel_rfl)) (by rw [hF]; kernel_rfl) (by rw [hF]; kernel_rfl)
                · intro w8 hB
                  simp only [Reg.putAll, Act.put, List.setIfInBounds_toArray, List.set_cons_zero, List.set_cons_succ]
                  have Hb2 := Lib.hid (hb.out.trans (hB.mono hb.out.size))
                  clear hB
                  go_wp2
                  go_ret
                  exact ⟨congrArg (fun z => Ending.returned (Value.bool z)) Hst2.out, Hb2.out⟩
      · have Hst2 : Hid (false = R) := by
          have := Hst.out
          rw [okC_and] at this
          simp only [hN0, Bool.not_true, Bool.false_and] at this
          exact Lib.hid this
        clear Hst
        refine Reg.wp_region_vals mixed (by kernel_rfl) [(10, .slice (some ⟨b, off, none⟩) n c), (11, .int .i64 (k : Nat)), (12, .pointer (some ⟨b, off + k * 2, none⟩)), (13, .pointer (some ⟨b, off + k * 2 + 1, none⟩)), (14, .int .i64 N), (15, .bool true), (16, .bool true), (17, undef), (18, undef), (19, undef), (20, undef), (21, undef), (22, undef), (23, undef), (24, .bool true), (25, .bool true), (26, undef), (27, undef), (28, undef), (29, undef), (30, undef), (31, undef), (32, undef), (33, .bool true), (34, .bool true), (35, undef), (36, undef), (37, undef), (38, undef), (39, undef), (40, undef), (41, undef), (42, undef), (43, undef), (44, undef), (45, undef), (46, undef), (47, undef), (48, undef), (49, undef), (50, undef), (51, undef), (52, .bool true)] 53 rfl (by kernel_rfl) ?_ ?_
        · intro F hF w' hB
          have j0 := (hB.cell (p := ⟨b, off + k * 2, none⟩) l0).trans d0.out
          have j1 := (hB.cell (p := ⟨b, off + k * 2 + 1, none⟩) l0).trans d1.out
          have ix := Hx.out.after hB
          refine ⟨?_, ?_, ?_, ?_, ?_, ?_, ?_, ?_, ?_, ?_, ?_, ?_, ?_, ?_, ?_, ?_, ?_, ?_, ?_, ?_, ?_, ?_, ?_, ?_, ?_, ?_, ?_, ?_, ?_, ?_, ?_, ?_, ?_, ?_, ?_, ?_, ?_, ?_, ?_, ?_, ?_, ?_, ?_, trivial⟩
          · exact Reg.doesV_val (ev_move rfl) (by rw [hF]; kernel_rfl) (by rw [hF]; kernel_rfl)
          · exact Reg.doesV_val (ev_move rfl) (by rw [hF]; kernel_rfl) (by rw [hF]; kernel_rfl)
          · exact Reg.doesV_val (ev_idxC (b := b) (off := off) (n := n) (c := c) (k := k) hlt rfl (by rw [hF]; kernel_rfl) (by rw [hF]; kernel_rfl)) (by rw [hF]; kernel_rfl) (by rw [hF]; kernel_rfl)
          · exact Reg.doesV_val (ev_c1 (b := b) (off := off + k * 2) rfl (by rw [hF]; kernel_rfl)) (by rw [hF]; kernel_rfl) (by rw [hF]; kernel_rfl)
          · exact Reg.doesV_val (ev_ldI (k := N) j1 rfl (by rw [hF]; kernel_rfl)) (by rw [hF]; kernel_rfl) (by rw [hF]; kernel_rfl)
          · exact Reg.doesV_val (by rw [ev_eqC5 N 0 rfl (by rw [hF]; kernel_rfl), hN0]) (by rw [hF]; kernel_rfl) (by rw [hF]; kernel_rfl)
          · exact Reg.doesV_val (ev_move rfl) (by rw [hF]; kernel_rfl) (by rw [hF]; kernel_rfl)
          · exact Reg.doesV_skip (by rw [hF]; kernel_rfl) (by rw [hF]; kernel_rfl)
          · exact Reg.doesV_skip (by rw [hF]; kernel_rfl) (by rw [hF]; kernel_rfl)
          · exact Reg.doesV_skip (by rw [hF]; kernel_rfl) (by rw [hF]; kernel_rfl)
          · exact Reg.doesV_skip (by rw [hF]; kernel_rfl) (by rw [hF]; kernel_rfl)
          · exact Reg.doesV_skip (by rw [hF]; kernel_rfl) (by rw [hF]; kernel_rfl)
          · exact Reg.doesV_skip (by rw [hF]; kernel_rfl) (by rw [hF]; kernel_rfl)
          · exact Reg.doesV_skip (by rw [hF]; kernel_rfl) (by rw [hF]; kernel_rfl)
          · exact Reg.doesV_val (ev_pick true rfl (by rw [hF]; kernel_rfl)) (by rw [hF]; kernel_rfl) (by rw [hF]; kernel_rfl)
          · exact Reg.doesV_val (ev_move rfl) (by rw [hF]; kernel_rfl) (by rw [hF]; kernel_rfl)
          · exact Reg.doesV_skip (by rw [hF]; kernel_rfl) (by rw [hF]; kernel_rfl)
          · exact Reg.doesV_skip (by rw [hF]; kernel_rfl) (by rw [hF]; kernel_rfl)
          · exact Reg.doesV_skip (by rw [hF]; kernel_rfl) (by rw [hF]; kernel_rfl)
          · exact Reg.doesV_skip (by rw [hF]; kernel_rfl) (by rw [hF]; kernel_rfl)
          · exact Reg.doesV_skip (by rw [hF]; kernel_rfl) (by rw [hF]; kernel_rfl)
          · exact Reg.doesV_skip (by rw [hF]; kernel_rfl) (by rw [hF]; kernel_rfl)
          · exact Reg.doesV_skip (by rw [hF]; kernel_rfl) (by rw [hF]; kernel_rfl)
          · exact Reg.doesV_val (ev_pick true rfl (by rw [hF]; kernel_rfl)) (by rw [hF]; kernel_rfl) (by rw [hF]; kernel_rfl)
          · exact Reg.doesV_val (ev_move rfl) (by rw [hF]; kernel_rfl) (by rw [hF]; kernel_rfl)
          · exact Reg.doesV_skip (by rw [hF]; kernel_rfl) (by rw [hF]; kernel_rfl)
          · exact Reg.doesV_skip (by rw [hF]; kernel_rfl) (by rw [hF]; kernel_rfl)
          · exact Reg.doesV_skip (by rw [hF]; kernel_rfl) (by rw [hF]; kernel_rfl)
          · exact Reg.doesV_skip (by rw [hF]; kernel_rfl) (by rw [hF]; kernel_rfl)
          · exact Reg.doesV_skip (by rw [hF]; kernel_rfl) (by rw [hF]; kernel_rfl)
          · exact Reg.doesV_skip (by rw [hF]; kernel_rfl) (by rw [hF]; kernel_rfl)
          · exact Reg.doesV_skip (by rw [hF]; kernel_rfl) (by rw [hF]; kernel_rfl)
          · exact Reg.doesV_skip (by rw [hF]; kernel_rfl) (by rw [hF]; kernel_rfl)
          · exact Reg.doesV_skip (by rw [hF]; kernel_rfl) (by rw [hF]; kernel_rfl)
          · exact Reg.doesV_skip (by rw [hF]; kernel_rfl) (by rw [hF]; kernel_rfl)
          · exact Reg.doesV_skip (by rw [hF]; kernel_rfl) (by rw [hF]; kernel_rfl)
          · exact Reg.doesV_skip (by rw [hF]; kernel_rfl) (by rw [hF]; kernel_rfl)
          · exact Reg.doesV_skip (by rw [hF]; kernel_rfl) (by rw [hF]; kernel_rfl)
          · exact Reg.doesV_skip (by rw [hF]; kernel_rfl) (by rw [hF]; kernel_rfl)
          · exact Reg.doesV_skip (by rw [hF]; kernel_rfl) (by rw [hF]; kernel_rfl)
          · exact Reg.doesV_skip (by rw [hF]; kernel_rfl) (by rw [hF]; kernel_rfl)
          · exact Reg.doesV_skip (by rw [hF]; kernel_rfl) (by rw [hF]; kernel_rfl)
          · exact Reg.doesV_val (ev_pick true rfl (by rw [hF]; kernel_rfl)) (by rw [hF]; kernel_rfl) (by rw [hF]; kernel_rfl)
        · intro w8 hB
          simp only [Reg.putAll, Act.put, List.setIfInBounds_toArray, List.set_cons_zero, List.set_cons_succ]
          have Hb2 := Lib.hid (hb.out.trans (hB.mono hb.out.size))
          clear hB
          go_wp2
          go_ret
          exact ⟨congrArg (fun z => Ending.returned (Value.bool z)) Hst2.out, Hb2.out⟩
    · obtain rfl : k = n := by omega
      have Hst' : Hid (true = R) := by
        have := hinv.out
        rw [show (pl cs).drop k = [] from List.drop_eq_nil_of_le (by rw [pl_len, HB.out.len]; omega)] at this
        rw [← this]
        exact Lib.hid (mayFrom_nil _).symm
      clear hinv
      go_wp2
      go_ret
      exact ⟨congrArg (fun z => Ending.returned (Value.bool z)) Hst'.out, hb.out⟩
end Go.Proofs.YthgoflaphbigbaaGreatDoor
