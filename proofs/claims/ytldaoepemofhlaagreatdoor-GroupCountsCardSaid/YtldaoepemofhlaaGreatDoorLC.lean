/-
  GroupCounts, walked. Of all views, bags and columns.
-/
import Derived.Test.YtldaoepemofhlaaGreatDoorR05
import Derived.Test.YtldaoepemofhlaaGreatDoorR06
namespace Go.Proofs.YtldaoepemofhlaaGreatDoor
open Go Go.RowKit

theorem mapB_pickG (ps : List Int) (hp : ps.length ≤ 40) : ∀ b o : Bg, mapB (pickF ps) b o = bothB o (pickL ps b)
  | [], _ => rfl
  | x :: b, o => by
    show mapB (pickF ps) b ((pickF ps x.1).foldl (fun o y => addB o y.1 (y.2 * x.2)) o) = _
    rw [mapB_pickG ps hp b]
    unfold pickL pickF
    rw [List.filterMap_cons]
    cases hq : pickR x.1 ps with
    | none => rfl
    | some q =>
      have hl : q.length ≤ 40 := by rw [pick_len ps x.1 q hq]; exact hp
      dsimp only [Option.map]
      rw [if_pos hl]
      show bothB (addB o q (1 * x.2)) _ = bothB (addB o q x.2) _
      rw [Int.one_mul]
theorem bd_gok {b : Bg} (hG : GOk b) : Bd 100000 b := fun x hx => by
  obtain ⟨k, hk⟩ := List.mem_iff_getElem?.1 hx
  have := hG.n hk
  omega
/-- What is picked, of a bag that is to be grouped. -/
theorem pickP_G {ps : List Int} {b : Bg} (hm : mayBag b = true) (hp : ps.length ≤ 40) (hG : GOk b) (hl : b.length ≤ 60) : pickP ps b = pickB ps b := by
  have hb := bd_gok hG
  have h1 : Bd 100000 (pickL ps b) := fun y hy => by
    obtain ⟨x, hx, _, e⟩ := pickL_mem hy
    rw [e]
    exact hb x hx
  have h2 : ∀ y ∈ pickL ps b, mayR y.1 = true ∧ y.2 ≠ 0 := fun y hy => by
    obtain ⟨x, hx, hq, e⟩ := pickL_mem hy
    obtain ⟨k1, _, _, k2⟩ := okC_parts (may_okC hm x hx)
    exact ⟨pick_mayR hq hp k2, by rw [e]; exact k1⟩
  have h3 : (pickL ps b).length ≤ 60 := Nat.le_trans (pickL_len ps b) hl
  have ha : Asc (bothB [] (pickL ps b)) := asc_both _ _ List.Pairwise.nil
  have h4 : mayBag (bothB [] (pickL ps b)) = true := by
    refine may_of ha fun x hx => ?_
    have k1 : x.2 ≠ 0 := nz_both _ [] (fun y hy => by cases hy) x hx
    have k2 := look_mem _ x ha hx
    rw [look_both _ _ _ List.Pairwise.nil] at k2
    have k3 : lookB [] x.1 = 0 := rfl
    have k4 := sum_bd 100000 (by decide) (pickL ps b) x.1 h1
    have k5 := key_both (fun r => mayR r = true) (pickL ps b) [] (fun y hy => by cases hy) (fun y hy => (h2 y hy).1) x hx
    exact okC_of k1 (by omega) (by omega) k5
  unfold pickP plusR pickB
  rw [hm, decide_eq_true hp, ones_plus, h4, all_ones, mapB_pickG ps hp]
  have h5 : (pickL ps b).all okC = true := List.all_eq_true.2 fun x hx => okC_of (h2 x hx).2 (by have := h1 x hx; omega) (by have := h1 x hx; omega) (h2 x hx).1
  rw [h5]
  rfl
/-- Can all columns be picked? -/
def picksB (ps : List Int) (b : Bg) : Bool := b.all fun x => ps.all fun p => decide (0 ≤ p) && decide (p < x.1.length)
theorem pick_some {xs : List Val} : ∀ {ps : List Int}, (ps.all fun p => decide (0 ≤ p) && decide (p < xs.length)) = true → ∃ q, pickR xs ps = some q
  | [], _ => ⟨[], by rw [pickR]⟩
  | p :: ps, h => by
    rw [List.all_cons, Bool.and_eq_true, Bool.and_eq_true, decide_eq_true_eq, decide_eq_true_eq] at h
    obtain ⟨q, hq⟩ := pick_some (xs := xs) (ps := ps) h.2
    have hx : xs[p.toNat]? = some (xs[p.toNat]'(by omega)) := List.getElem?_eq_getElem _
    rw [pickR, if_pos ⟨h.1.1, h.1.2⟩, hx, hq]
    exact ⟨_, rfl⟩
/-- A sum over rows. -/
def wtS (f : List Val × Int → Int) : Bg → Int
  | [] => 0
  | x :: b => f x + wtS f b
theorem wtS_cnt : ∀ b : Bg, wtS (fun x => x.2) b = cntB b
  | [] => rfl
  | x :: b => by rw [wtS, cntB, wtS_cnt b]
theorem wtS_sum (i : Int) : ∀ b : Bg, wtS (fun x => if (atR x.1 i).k = 2 then (atR x.1 i).n * x.2 else 0) b = sumF id i b
  | [] => rfl
  | x :: b => by rw [wtS, sumF, wtS_sum i b]; rfl
/-- Group by group. -/
def grpS (f : List Val × Int → Int) (ps : List Int) (b : Bg) : List (List Val) → Int
  | [] => 0
  | k :: l => wtS f (inB ps k b) + grpS f ps b l
theorem inB_cons (ps : List Int) (k : List Val) (x : List Val × Int) (b : Bg) : inB ps k (x :: b) = if pickR x.1 ps = some k then x :: inB ps k b else inB ps k b := by
  unfold inB stayB
  rw [List.filter_cons]
  by_cases h : pickR x.1 ps = some k
  · rw [if_pos h, if_pos (show decide (pickR x.1 ps = some k) = true from decide_eq_true h)]
  · rw [if_neg h, if_neg (show ¬ decide (pickR x.1 ps = some k) = true by rw [decide_eq_false h]; exact Bool.false_ne_true)]
theorem grpS_nil (f : List Val × Int → Int) (ps : List Int) : ∀ l : List (List Val), grpS f ps [] l = 0
  | [] => rfl
  | k :: l => by rw [grpS, grpS_nil f ps l]; rfl
theorem grpS_out (f : List Val × Int → Int) (ps : List Int) (x : List Val × Int) (b : Bg) {q : List Val} (hq : pickR x.1 ps = some q) : ∀ l : List (List Val), q ∉ l → grpS f ps (x :: b) l = grpS f ps b l
  | [], _ => rfl
  | k :: l, h => by
    rw [grpS, grpS, inB_cons, if_neg (by rw [hq]; intro e; exact h (by rw [Option.some.inj e]; simp)), grpS_out f ps x b hq l (fun hl => h (List.mem_cons_of_mem _ hl))]
theorem grpS_in (f : List Val × Int → Int) (ps : List Int) (x : List Val × Int) (b : Bg) {q : List Val} (hq : pickR x.1 ps = some q) : ∀ l : List (List Val), l.Nodup → q ∈ l → grpS f ps (x :: b) l = f x + grpS f ps b l
  | [], _, h => by cases h
  | k :: l, hn, h => by
    obtain ⟨h1, h2⟩ := List.nodup_cons.1 hn
    rw [grpS, grpS, inB_cons]
    by_cases e : q = k
    · subst e
      rw [if_pos hq, wtS, grpS_out f ps x b hq l h1]
      omega
    · rw [if_neg (by rw [hq]; intro e2; exact e (Option.some.inj e2)), grpS_in f ps x b hq l h2 (by
        rcases List.mem_cons.1 h with h | h
        · exact absurd h e
        · exact h)]
      omega
/-- Each row is in just one group. -/
theorem grpS_all (f : List Val × Int → Int) (ps : List Int) {l : List (List Val)} (hn : l.Nodup) : ∀ b : Bg, (∀ x ∈ b, ∃ q ∈ l, pickR x.1 ps = some q) → grpS f ps b l = wtS f b
  | [], _ => grpS_nil f ps l
  | x :: b, h => by
    obtain ⟨q, hl, hq⟩ := h x (by simp)
    rw [grpS_in f ps x b hq l hn hl, grpS_all f ps hn b fun y hy => h y (List.mem_cons_of_mem _ hy), wtS]
theorem grpS_take (f : List Val × Int → Int) (ps : List Int) (b : Bg) : ∀ (l : List (List Val)) (j : Nat) (k : List Val), l[j]? = some k → grpS f ps b (l.take (j + 1)) = grpS f ps b (l.take j) + wtS f (inB ps k b)
  | [], _, _, h => by simp at h
  | q :: l, 0, k, h => by
    have e : q = k := by simpa using h
    subst e
    show wtS f (inB ps q b) + grpS f ps b [] = grpS f ps b [] + _
    simp [grpS]
  | q :: l, j + 1, k, h => by
    have h2 := grpS_take f ps b l j k (by simpa using h)
    rw [List.take_succ_cons, List.take_succ_cons, grpS, grpS, h2]
    omega
/-- Is there a number in a column, group by group? -/
def grpA (i : Int) (ps : List Int) (b : Bg) (l : List (List Val)) : Bool := l.any fun k => anyI i (inB ps k b)
theorem grpA_take (i : Int) (ps : List Int) (b : Bg) {l : List (List Val)} {j : Nat} {k : List Val} (h : l[j]? = some k) : grpA i ps b (l.take (j + 1)) = (grpA i ps b (l.take j) || anyI i (inB ps k b)) := by
  unfold grpA
  rw [List.take_add_one, h, List.any_append]
  congr 1
  exact Bool.or_false _
theorem grpA_all (i : Int) (ps : List Int) {l : List (List Val)} {b : Bg} (h : ∀ x ∈ b, ∃ q ∈ l, pickR x.1 ps = some q) : grpA i ps b l = anyI i b := by
  rw [Bool.eq_iff_iff]
  unfold grpA
  rw [List.any_eq_true]
  have iff : ∀ c : Bg, anyI i c = true ↔ ∃ x ∈ c, (atR x.1 i).k = 2 := fun c => by
    unfold anyI
    rw [List.any_eq_true]
    exact ⟨fun ⟨x, hx, h⟩ => ⟨x, hx, of_decide_eq_true h⟩, fun ⟨x, hx, h⟩ => ⟨x, hx, decide_eq_true h⟩⟩
  constructor
  · rintro ⟨k, _, hk⟩
    obtain ⟨x, hx, h2⟩ := (iff _).1 hk
    exact (iff _).2 ⟨x, (List.mem_filter.1 hx).1, h2⟩
  · intro hb
    obtain ⟨x, hx, h2⟩ := (iff _).1 hb
    obtain ⟨q, hq, hp⟩ := h x hx
    exact ⟨q, hq, (iff _).2 ⟨x, List.mem_filter.2 ⟨hx, decide_eq_true hp⟩, h2⟩⟩
/-- The keys of groups: each once; each row has one. -/
theorem keys_ok {ps : List Int} {b : Bg} (hm : mayBag b = true) (hG : GOk b) (hl : b.length ≤ 60) (hp : ps.length ≤ 20) (ha : picksB ps b = true) :
    ((pickP ps b).map (·.1)).Nodup ∧ (∀ x ∈ b, ∃ q ∈ (pickP ps b).map (·.1), pickR x.1 ps = some q) ∧ (∀ y ∈ pickP ps b, y.1.length = ps.length ∧ inB ps y.1 b ≠ []) := by
  have hpos : Pos b := fun x hx => by
    have h1 := hG.1 x hx
    have h2 := may_nz hm x hx
    omega
  rw [pickP_G hm (by omega) hG hl]
  have hk : (pickB ps b).map (·.1) = keysB ps b := rfl
  rw [hk]
  refine ⟨?_, fun x hx => ?_, fun y hy => ?_⟩
  · refine (keys_asc ps b).imp fun {a c} h e => ?_
    subst e
    have := cmpL_iff.2 (rfl : a = a)
    rw [h] at this
    cases this
  · obtain ⟨q, hq⟩ := pick_some (List.all_eq_true.1 ha x hx)
    exact ⟨q, (keys_mem hpos q).2 ⟨by omega, x, hx, hq⟩, hq⟩
  · have hy2 : y.1 ∈ keysB ps b := by rw [← hk]; exact List.mem_map.2 ⟨y, hy, rfl⟩
    exact ⟨key_len hpos hy2, ((key_in hpos y.1).1 hy2).2⟩
theorem aggE_two {b : Bg} {i : Int} : aggsE b [(0, 0), (1, i)] = (aggR 1 i b).2 := by
  rw [aggsE, aggsE, aggsE]
  have h0 : (aggR 0 0 b).2 = 0 := rfl
  rw [if_pos h0]
  split
  · next h => exact h.symm
  · rfl
theorem aggR1_err (i : Int) (b : Bg) : (aggR 1 i b).2 = 0 ∨ (aggR 1 i b).2 = 110 := by
  unfold aggR
  rw [if_neg (by decide), if_pos rfl]
  split
  · split
    · exact .inl rfl
    · exact .inr rfl
  · exact .inl rfl
theorem errG_110 (ps : List Int) (i : Int) (b : Bg) : ∀ l : Bg, errG ps [(0, 0), (1, i)] b l = 0 ∨ errG ps [(0, 0), (1, i)] b l = 110
  | [] => .inl rfl
  | x :: l => by
    rw [errG]
    split
    · exact errG_110 ps i b l
    · next h =>
      rw [aggE_two] at h ⊢
      rcases aggR1_err i (inB ps x.1 b) with h1 | h1
      · exact absurd h1 h
      · exact .inr h1
theorem errG_each {ps : List Int} {i : Int} {b : Bg} : ∀ {l : Bg}, errG ps [(0, 0), (1, i)] b l = 0 → ∀ x ∈ l, (aggR 1 i (inB ps x.1 b)).2 = 0
  | [], _, x, hx => by cases hx
  | y :: l, h, x, hx => by
    rw [errG] at h
    split at h
    · next h1 =>
      rcases List.mem_cons.1 hx with rfl | hx
      · rw [← aggE_two]; exact h1
      · exact errG_each h x hx
    · next h1 => exact absurd h h1
/-- What has been added so far. -/
def sumS (a : Bool) (s : Int) : Val := if a then iv s else nl
/-- A group's sum, where it is none too large. -/
theorem aggR_one {i : Int} {b : Bg} (h : (aggR 1 i b).2 = 0) : (aggR 1 i b).1 = sumS (anyI i b) (sumF id i b) ∧ (anyI i b = true → -9223372036854775808 ≤ sumF id i b ∧ sumF id i b ≤ 9223372036854775807) ∧ (anyI i b = false → sumF id i b = 0) := by
  have hn : anyI i b = false → sumF id i b = 0 := by
    intro h
    induction b with
    | nil => rfl
    | cons x b ih =>
      unfold anyI at h
      rw [List.any_cons, Bool.or_eq_false_iff] at h
      show (if (atR x.1 i).k = 2 then id (atR x.1 i).n * x.2 else 0) + sumF id i b = 0
      have h3 : (aggR 1 i b).2 = 0 := by
        unfold aggR
        rw [if_neg (by decide), if_pos rfl, if_neg (by unfold anyI; rw [h.2]; exact Bool.false_ne_true)]
      rw [if_neg (of_decide_eq_false h.1), ih h3 h.2]
      rfl
  revert h
  unfold aggR sumS
  rw [if_neg (by decide), if_pos rfl]
  split
  · next ha =>
    rw [ha]
    split
    · next hf => exact fun _ => ⟨rfl, fun _ => hf, nofun⟩
    · exact fun h => by cases h
  · next ha =>
    have ha2 : anyI i b = false := by simpa using ha
    rw [ha2]
    exact fun _ => ⟨rfl, nofun, fun _ => hn ha2⟩
end Go.Proofs.YtldaoepemofhlaaGreatDoor

namespace Go.Proofs.YtldaoepemofhlaaGreatDoor
open Go Go.RowKit
set_option maxRecDepth 100000
attribute [local go_sem ↓] Go.wp_at_zero Go.wp_at_succ

theorem all_takeC {α : Type} {p : α → Bool} {l : List α} {k : Nat} {x : α} (h : l[k]? = some x) : (l.take (k + 1)).all p = ((l.take k).all p && p x) := by
  rw [List.take_add_one, h, List.all_append]
  congr 1
  exact Bool.and_true _
set_option maxHeartbeats 400000 in
theorem picks_c (x : Vq) (A : Option Addr) (n c : Nat) (cs : List Ct) (w : World) (hx : Vq.In w x) (hA : BgIn w A n cs) (hn : n ≤ 60) (hp : x.pn ≤ 20) :
    Calls Tryz.prog 16 #[x.w, .slice A n c] w fun e w' => e = .returned (.bool (picksB x.ps (pl cs))) ∧ Below w.heap.size w w' := by
  have HA := Lib.hid hA
  have HX := Lib.hid hx
  have HQ0 : Hid (Bq (w.alloc (.cells x.cells 28)) w.heap.size x) := Lib.hid (Bq.new w x)
  clear hA hx
  obtain ⟨nm, fr, wt, o0, o1, eA, en, ec, ee, pA, pn, pc, ps, gr, aA, an, ac⟩ := x
  obtain ⟨V, hV⟩ : ∃ V, w.alloc (.cells #[.string nm, .string fr, .string wt, .int .i64 o0, .int .i64 o1, .slice eA en ec, .slice pA pn pc, .bool gr, .slice aA an ac] 28) = V := ⟨_, rfl⟩
  have HQ : Hid (Bq V w.heap.size (⟨nm, fr, wt, o0, o1, eA, en, ec, ee, pA, pn, pc, ps, gr, aA, an, ac⟩ : Vq)) := Lib.hid (by rw [← hV]; exact HQ0.out)
  have HlV : Hid (w.heap.size < V.heap.size) := Lib.hid (by rw [← hV]; simp)
  have HVb : Hid (Below w.heap.size w V) := Lib.hid (by rw [← hV]; exact below_one _ _)
  clear HQ0
  dsimp only [Vq.w]
  have Hpl : Hid (ps.length = pn) := Lib.hid HX.out.plen
  try simp only at hp
  obtain ⟨R, hR⟩ : ∃ R, picksB ps (pl cs) = R := ⟨_, rfl⟩
  have HR := Lib.hid hR
  rw [hR]
  clear hR
  obtain ⟨q0, q1, q2, q3, q4, q5, q6, q7, q8⟩ := HQ.out.allG
  try simp only at q0 q1 q2 q3 q4 q5 q6 q7 q8
  have lq := HlV.out
  clear q0 q1 q2 q3 q4 q5 q7 q8
  go_enter Tryz.func16, Tryz.ntmps16
  go_wp2_with fail
  clear hV
  go_loopw [5] (fun q wr => ∃ k : Nat, k ≤ n ∧ q = .int .i64 k ∧ Hid (Below V.heap.size V wr) ∧ Hid (picksB ps ((pl cs).take k) = true)) (fun q _ => n - (intOf q).toNat)
  case atStart => exact ⟨0, Nat.zero_le _, rfl, Lib.hid (Below.refl _ _), Lib.hid rfl⟩
  case round =>
    obtain ⟨k, hk, rfl, hb, hall⟩ := hrel
    by_cases hlt : k < n
    · have HBr := (HA.out.after HVb.out).after hb.out
      obtain ⟨bb, off, rfl⟩ := HBr.sl.some2 (k := k) (by rw [HBr.len]; exact hlt)
      obtain ⟨x, hx⟩ : ∃ x, cs[k]? = some x := ⟨_, List.getElem?_eq_getElem (by rw [HBr.len]; exact hlt)⟩
      have Hxr := Lib.hid (HBr.each x (List.mem_of_getElem? hx))
      have Hmem := Lib.hid (List.mem_of_getElem? (pl_at hx))
      have Hmore := Lib.hid (all_takeC (p := fun x : List Val × Int => ps.all fun p => decide (0 ≤ p) && decide (p < x.1.length)) (pl_at hx))
      have Hsl := Lib.hid HBr.sl
      have Hxk := Lib.hid hx
      have hgo : (k : Int) < n := by omega
      have lq1 := Nat.lt_of_lt_of_le lq hb.out.size
      clear hx HBr
      go_wp2_with fail
      go_loopw [6] (fun q wr2 => ∃ j : Nat, j ≤ pn ∧ q = .int .i64 j ∧ Hid (Below V.heap.size V wr2) ∧ Hid ((ps.take j).all (fun p => decide (0 ≤ p) && decide (p < x.h.xs.length)) = true)) (fun q _ => pn - (intOf q).toNat)
      case atStart => exact ⟨0, Nat.zero_le _, rfl, hb, Lib.hid rfl⟩
      case round =>
        obtain ⟨j, hj, rfl, hb2, hpre⟩ := hrel
        obtain ⟨_, _, _, _, _, _, p6, _, _⟩ := (HQ.out.below hb2.out HlV.out).allG
        try simp only at p6
        have lq2 := Nat.lt_of_lt_of_le lq hb2.out.size
        by_cases hjl : j < pn
        · have hps := ((HX.out.after HVb.out).after hb2.out).psl
          try simp only at hps
          obtain ⟨pb, poff, p, rfl, hpl, hpj, e0⟩ := hps.at1 (by rw [Hpl.out]; exact hjl)
          have e1 := e0 _ rfl
          obtain ⟨l0, d0, _⟩ := (((HA.out.after HVb.out).after hb2.out).sl).cell2 Hxk.out
          have Hpm := Lib.hid (all_takeC (p := fun p : Int => decide (0 ≤ p) && decide (p < x.h.xs.length)) hpj)
          have Hpx := Lib.hid (List.mem_of_getElem? hpj)
          have Hln : Hid (x.h.xs.length = x.h.n) := Lib.hid Hxr.out.hd.len
          have hjgo : (j : Int) < pn := by omega
          clear e0 hpj hps
          obtain ⟨⟨xA, xn, xc, xs⟩, N⟩ := x
          have Hfail : Hid (¬ (0 ≤ p ∧ p < (xn : Int)) → R = false) := Lib.hid fun h => by
            rw [← HR.out]
            cases hq : picksB ps (pl cs)
            · rfl
            · exfalso
              have h1 := List.all_eq_true.1 hq _ Hmem.out
              have h2 := List.all_eq_true.1 h1 p Hpx.out
              rw [Bool.and_eq_true, decide_eq_true_eq, decide_eq_true_eq] at h2
              have h3 : xs.length = xn := Hln.out
              exact h ⟨h2.1, by have := h2.2; simp only at this; omega⟩
          try simp only at d0
          by_cases h1 : p < 0
          · have hr := Hfail.out (by omega)
            subst hr
            have hd1 : decide (p < 0) = true := decide_eq_true h1
            go_wp2_with fail
            go_region
            go_wp2_with fail
            go_ret
            exact ⟨rfl, below_via HVb.out hb2.out.drew⟩
          · by_cases h2 : p < (xn : Int)
            · have h3 : ¬ (xn : Int) ≤ p := by omega
              have hd1 : decide (p < 0) = false := decide_eq_false h1
              have hd2 : decide ((xn : Int) ≤ p) = false := decide_eq_false h3
              have HN : Hid ((List.take (j + 1) ps).all (fun p => decide (0 ≤ p) && decide (p < (xs.length : Int))) = true) := Lib.hid (by
                have h4 := Hpm.out
                have h5 := hpre.out
                try simp only at h4 h5
                rw [h4, h5, decide_eq_true (show 0 ≤ p by omega), decide_eq_true (show p < (xs.length : Int) by have h6 : xs.length = xn := Hln.out; omega)]
                rfl)
              go_wp2_with fail
              go_region
              go_wp2_with fail
              go_roundw
              case rel => exact ⟨j + 1, by omega, by go_num, Lib.hid hb2.out.drew, HN⟩
              case measure => simp [intOf]; omega
            · have hr := Hfail.out (by omega)
              subst hr
              have h3 : (xn : Int) ≤ p := by omega
              have hd1 : decide (p < 0) = false := decide_eq_false h1
              have hd2 : decide ((xn : Int) ≤ p) = true := decide_eq_true h3
              go_wp2_with fail
              go_region
              go_wp2_with fail
              go_ret
              exact ⟨rfl, below_via HVb.out hb2.out.drew⟩
        · obtain rfl : j = pn := by omega
          have HN : Hid (picksB ps ((pl cs).take (k + 1)) = true) := Lib.hid (by
            have h4 := Hmore.out
            have h5 := hpre.out
            rw [show ps.take j = ps from List.take_of_length_le (by rw [Hpl.out]; exact Nat.le_refl _)] at h5
            unfold picksB at hall ⊢
            rw [h4, hall.out]
            exact h5)
          go_wp2_with fail
          go_roundw
          case rel => exact ⟨k + 1, by omega, by go_num, hb2, HN⟩
          case measure => simp [intOf]; omega
    · obtain rfl : k = n := by omega
      have hr : R = true := by
        have h1 := hall.out
        rw [show (pl cs).take k = pl cs from List.take_of_length_le (by rw [pl_len, HA.out.len]; exact Nat.le_refl _), HR.out] at h1
        exact h1
      subst hr
      go_wp2_with fail
      go_ret
      exact ⟨rfl, below_via HVb.out hb.out⟩
end Go.Proofs.YtldaoepemofhlaaGreatDoor

namespace Go.Proofs.YtldaoepemofhlaaGreatDoor
open Go Go.RowKit

theorem addR_in {x y : Int} (h : I6n (x + y)) : addR (iv x) (iv y) = (iv (x + y), true) := by
  have h1 := (add_fit x y h).1
  have h2 : wrap64 (x + y) = x + y := by unfold I6n at h; unfold wrap64; omega
  unfold addR
  show comp (iv x) (iv y) (wrap64 (x + y)) (decide (x < wrap64 (x + y)) == decide (0 < y)) = _
  rw [h1, h2]
  rfl
theorem addR_out {x y : Int} (hx : I6n x) (hy : I6n y) (h : ¬ I6n (x + y)) : addR (iv x) (iv y) = (nl, false) := by
  unfold addR
  show comp (iv x) (iv y) (wrap64 (x + y)) (decide (x < wrap64 (x + y)) == decide (0 < y)) = _
  rw [add_over x y hx hy h]
  rfl
theorem rowsF_two {ps : List Int} {b : Bg} {i : Int} (h0 : refR b = 0) (hp : ps.length ≤ 20) : rowsF ps true [(0, 0), (1, i)] b = if errG ps [(0, 0), (1, i)] b (pickP ps b) = 0 then (valG ps [(0, 0), (1, i)] b (pickP ps b), 0) else ([], 110) := by
  unfold rowsF
  rw [if_pos h0]
  by_cases he : pickP ps b = []
  · rw [if_pos (.inr he), he]
    rfl
  · rw [if_neg (by rintro (h | h); cases h; exact he h), if_neg (by simp only [List.length_cons, List.length_nil]; omega)]
    rcases errG_110 ps i b (pickP ps b) with h | h
    · rw [if_pos h, if_pos h]
    · rw [if_neg (by rw [h]; decide), if_neg (by rw [h]; decide), h]
/-- What is known of the groups. -/
structure Cnt (ps : List Int) (i : Int) (b r : Bg) : Prop where
  len : r.length ≤ 60
  all : grpS (fun x => x.2) ps b ((pickP ps b).map (·.1)) = cntB b
  any : grpA i ps b ((pickP ps b).map (·.1)) = anyI i b
  sum : grpS (fun x => if (atR x.1 i).k = 2 then (atR x.1 i).n * x.2 else 0) ps b ((pickP ps b).map (·.1)) = sumF id i b
  keys : ((pickP ps b).map (·.1)).length = r.length
  row : ∀ (j : Nat) (x : List Val × Int), r[j]? = some x → x.2 = 1 ∧ ∃ k, ((pickP ps b).map (·.1))[j]? = some k ∧ x.1.length = ps.length + 2 ∧ x.1[ps.length]? = some (iv (cntB (inB ps k b))) ∧
    x.1[ps.length + 1]? = some (sumS (anyI i (inB ps k b)) (sumF id i (inB ps k b))) ∧ 1 ≤ cntB (inB ps k b) ∧ cntB (inB ps k b) ≤ 100000 ∧
    (anyI i (inB ps k b) = true → I6n (sumF id i (inB ps k b))) ∧ (anyI i (inB ps k b) = false → sumF id i (inB ps k b) = 0)
theorem cnt_ok {ps : List Int} {b : Bg} {i : Int} (h0 : refR b = 0) (hl : b.length ≤ 60) (hp : ps.length ≤ 20) (ha : picksB ps b = true) (he : errG ps [(0, 0), (1, i)] b (pickP ps b) = 0) :
    Cnt ps i b (valG ps [(0, 0), (1, i)] b (pickP ps b)) := by
  obtain ⟨hm, hG⟩ := refR_ok h0
  obtain ⟨k1, k2, k3⟩ := keys_ok hm hG hl hp ha
  refine ⟨?_, ?_, grpA_all i ps k2, ?_, ?_, fun j x hx => ?_⟩
  · unfold valG
    rw [List.length_map]
    exact Nat.le_trans (pickP_len ps b) hl
  · rw [grpS_all _ ps k1 b k2]; exact wtS_cnt b
  · rw [grpS_all _ ps k1 b k2]; exact wtS_sum i b
  · unfold valG
    rw [List.length_map, List.length_map]
  · unfold valG at hx
    rw [List.getElem?_map] at hx
    obtain ⟨y, hy⟩ : ∃ y, (pickP ps b)[j]? = some y := by
      cases h : (pickP ps b)[j]? with
      | none => rw [h] at hx; cases hx
      | some y => exact ⟨y, rfl⟩
    rw [hy] at hx
    have hx2 : x = (y.1 ++ aggsV (inB ps y.1 b) [(0, 0), (1, i)], 1) := (Option.some.inj hx).symm
    have hmem := List.mem_of_getElem? hy
    obtain ⟨l1, l2⟩ := k3 y hmem
    obtain ⟨a1, a2, a3⟩ := aggR_one (errG_each he y hmem)
    have hv : aggsV (inB ps y.1 b) [(0, 0), (1, i)] = [iv (cntB (inB ps y.1 b)), sumS (anyI i (inB ps y.1 b)) (sumF id i (inB ps y.1 b))] := by
      rw [← a1]
      rfl
    rw [hv] at hx2
    subst hx2
    have hGi : GOk (inB ps y.1 b) := hG.filter _
    refine ⟨rfl, y.1, by rw [List.getElem?_map, hy]; rfl, ?_, ?_, ?_, ?_, hGi.2, a2, a3⟩
    · show (y.1 ++ _).length = _
      rw [List.length_append, l1]
      rfl
    · show (y.1 ++ _)[ps.length]? = _
      rw [← l1, List.getElem?_append_right (Nat.le_refl _), Nat.sub_self]
      rfl
    · show (y.1 ++ _)[ps.length + 1]? = _
      rw [← l1, List.getElem?_append_right (Nat.le_succ _), show y.1.length.succ - y.1.length = 1 by omega]
      rfl
    · cases hc : inB ps y.1 b with
      | nil => exact absurd hc l2
      | cons z c =>
        have hz : z ∈ b := (List.mem_filter.1 (show z ∈ inB ps y.1 b by rw [hc]; simp)).1
        have z1 := hG.1 z hz
        have z2 := may_nz hm z hz
        have z3 : 0 ≤ cntB c := cntB_nonneg fun u hu => hG.1 u (List.mem_filter.1 (show u ∈ inB ps y.1 b by rw [hc]; exact List.mem_cons_of_mem _ hu)).1
        rw [cntB]
        omega
theorem aggR_all {i : Int} {b : Bg} (h : anyI i b = true → I6n (sumF id i b)) : aggR 1 i b = (sumS (anyI i b) (sumF id i b), 0) := by
  unfold aggR sumS
  rw [if_neg (by decide), if_pos rfl]
  split
  · next ha =>
    rw [if_pos (show -9223372036854775808 ≤ sumF id i b ∧ sumF id i b ≤ 9223372036854775807 from h ha)]
    rfl
  · rfl
/-- What has been counted and added of the first j groups. -/
structure CntAt (ps : List Int) (i : Int) (b : Bg) (j : Nat) (z : Int) (a : Bool) (s : Int) : Prop where
  n : z = grpS (fun x => x.2) ps b (((pickP ps b).map (·.1)).take j)
  lo : 0 ≤ z ∧ z ≤ j * 100000
  any : a = grpA i ps b (((pickP ps b).map (·.1)).take j)
  sum : s = grpS (fun x => if (atR x.1 i).k = 2 then (atR x.1 i).n * x.2 else 0) ps b (((pickP ps b).map (·.1)).take j)
  fit : a = true → I6n s
  out : a = false → s = 0
theorem CntAt.zero (ps : List Int) (i : Int) (b : Bg) : CntAt ps i b 0 0 false 0 := ⟨rfl, by omega, rfl, rfl, nofun, fun _ => rfl⟩
theorem CntAt.next {ps : List Int} {i : Int} {b r : Bg} {j : Nat} {z : Int} {a : Bool} {s : Int} {x : List Val × Int} (hC : Cnt ps i b r) (h : CntAt ps i b j z a s) (hx : r[j]? = some x) :
    ∃ (N : Int) (a2 : Bool) (s2 : Int), x.2 = 1 ∧ x.1.length = ps.length + 2 ∧ x.1[ps.length]? = some (iv N) ∧ x.1[ps.length + 1]? = some (sumS a2 s2) ∧ 1 ≤ N ∧ N ≤ 100000 ∧
      (a2 = true → I6n s2) ∧ (a2 = false → s2 = 0) ∧ (((a || a2) = true → I6n (s + s2)) → CntAt ps i b (j + 1) (z + N) (a || a2) (s + s2)) := by
  obtain ⟨h1, k, hk, h2, h3, h4, h5, h6, h7, h8⟩ := hC.row j x hx
  refine ⟨_, _, _, h1, h2, h3, h4, h5, h6, h7, h8, fun hf => ⟨?_, ?_, ?_, ?_, hf, fun ho => ?_⟩⟩
  · rw [h.n, grpS_take _ ps b _ j k hk, wtS_cnt]
  · have := h.lo; omega
  · rw [h.any, grpA_take i ps b hk]
  · rw [h.sum, grpS_take _ ps b _ j k hk, wtS_sum]
  · rw [Bool.or_eq_false_iff] at ho
    rw [h.out ho.1, h8 ho.2]
    rfl
theorem CntAt.done {ps : List Int} {i : Int} {b r : Bg} {z : Int} {a : Bool} {s : Int} (hC : Cnt ps i b r) (h : CntAt ps i b r.length z a s) : z = cntB b ∧ aggR 1 i b = (sumS a s, 0) := by
  have ht : ((pickP ps b).map (·.1)).take r.length = (pickP ps b).map (·.1) := List.take_of_length_le (by rw [hC.keys]; exact Nat.le_refl _)
  have e1 := h.n
  have e2 := h.any
  have e3 := h.sum
  rw [ht] at e1 e2 e3
  rw [hC.all] at e1
  rw [hC.any] at e2
  rw [hC.sum] at e3
  refine ⟨e1, ?_⟩
  have hf := h.fit
  subst e2 e3
  exact aggR_all hf
end Go.Proofs.YtldaoepemofhlaaGreatDoor

namespace Go.Proofs.YtldaoepemofhlaaGreatDoor
open Go Go.RowKit
set_option maxRecDepth 100000
attribute [local go_sem ↓] Go.wp_at_zero Go.wp_at_succ run_eqV run_neV

theorem Bf.keptC {w : World} {b g j : Nat} {cs : Array Value} {T : TypeId} {v : Value} (h : Bf w b cs T) (hne : b ≠ g) : Bf (w.setCell ⟨g, j, none⟩ v) b cs T := (Below.heap_setCell _ _ _ _ hne).trans h
theorem SlG.keptC {α : Type} {rd : α → List Value} {S : Nat} {w : World} {b g j o : Nat} {xs : List α} {v : Value} (h : SlG w (some ⟨b, o, none⟩) S rd xs) (hne : b ≠ g) : SlG (w.setCell ⟨g, j, none⟩ v) (some ⟨b, o, none⟩) S rd xs := by
  rcases h with h | ⟨b', off, hA, hlt, h⟩
  · exact .inl h
  · cases hA
    refine .inr ⟨b, o, rfl, by simpa [World.setCell] using hlt, fun i x hx j' u hu => ?_⟩
    have h1 := h i x hx j' u hu
    simp only [World.cell?] at h1 ⊢
    rw [Below.heap_setCell _ _ _ _ (by exact hne)]
    exact h1
theorem put3_sizeC (w : World) (b : Nat) (a : Val) : (put3 w b a).heap.size = w.heap.size := by simp [put3, World.setCell]
theorem aggF_okC {fn col : Int} {b : Bg} (h : refR b = 0) : aggF fn col b = aggR fn col b := by unfold aggF; rw [if_pos h]
theorem small_lenC {b : Bg} (h : smallB b = true) : b.length ≤ 60 := by
  unfold smallB at h
  rw [Bool.and_eq_true, decide_eq_true_eq] at h
  exact h.2
set_option maxHeartbeats 2000000 in
theorem counts_w (x : Vq) (A : Option Addr) (n c : Nat) (cs : List Ct) (col : Int) (w : World) (hx : Vq.In w x) (hA : BgIn w A n cs) (hG : Gl w) :
    Calls Tryz.prog 4 #[x.w, .slice A n c, .int .i64 col] w fun e w' => e = .returned (.bool true) ∧ Below w.heap.size w w' := by
  have HA := Lib.hid hA
  have HGl := Lib.hid hG
  have HX := Lib.hid hx
  have HQ0 : Hid (Bq (w.alloc (.cells x.cells 28)) w.heap.size x) := Lib.hid (Bq.new w x)
  clear hA hG hx
  obtain ⟨nm, fr, wt, o0, o1, eA, en, ec, ee, pA, pn, pc, ps, gr, aA, an, ac⟩ := x
  obtain ⟨V, hV⟩ : ∃ V, w.alloc (.cells #[.string nm, .string fr, .string wt, .int .i64 o0, .int .i64 o1, .slice eA en ec, .slice pA pn pc, .bool gr, .slice aA an ac] 28) = V := ⟨_, rfl⟩
  have HQ : Hid (Bq V w.heap.size (⟨nm, fr, wt, o0, o1, eA, en, ec, ee, pA, pn, pc, ps, gr, aA, an, ac⟩ : Vq)) := Lib.hid (by rw [← hV]; exact HQ0.out)
  have HlV : Hid (w.heap.size < V.heap.size) := Lib.hid (by rw [← hV]; simp)
  have HVb : Hid (Below w.heap.size w V) := Lib.hid (by rw [← hV]; exact below_one _ _)
  have Hpl : Hid (ps.length = pn) := Lib.hid HX.out.plen
  clear HQ0
  dsimp only [Vq.w]
  go_enter Tryz.func4, Tryz.ntmps4
  go_wp2_with fail
  clear hV
  refine (gfixed_c V (HGl.out.after HVb.out)).mono ?_
  rintro e w1 ⟨rfl, hb⟩
  have Hb := Lib.hid hb
  clear hb
  go_wp2_with fail
  refine (smallB_c A n c cs _ ((HA.out.after HVb.out).after Hb.out)).mono ?_
  rintro e w2 ⟨rfl, hb⟩
  replace Hb := Lib.hid (below_via Hb.out hb)
  clear hb
  cases hsa : smallB (pl cs)
  · clear hsa
    go_wp2_with fail
    refine (gfixed_c _ ((HGl.out.after HVb.out).after Hb.out)).mono ?_
    rintro e wz ⟨rfl, hb⟩
    have HF := Lib.hid (below_via HVb.out (below_via Hb.out hb))
    clear hb Hb
    go_wp2_with fail
    go_ret
    exact ⟨rfl, HF.out⟩
  · have hn : n ≤ 60 := by have h1 := small_lenC hsa; rw [pl_len, HA.out.len] at h1; exact h1
    clear hsa
    obtain ⟨_, _, _, _, _, _, p6, _, _⟩ := (HQ.out.below Hb.out HlV.out).allG
    try simp only at p6
    have lb : w.heap.size < w2.heap.size := Nat.lt_of_lt_of_le HlV.out Hb.out.size
    by_cases hp : pn ≤ 20
    · have hp1 : ¬ (20 : Int) < pn := by omega
      go_wp2_with fail
      clear p6 lb hp1
      refine (rright_c A n c cs _ ((HA.out.after HVb.out).after Hb.out) (by omega)).mono ?_
      rintro e w3 ⟨rfl, hb⟩
      replace Hb := Lib.hid (below_via Hb.out hb)
      clear hb
      obtain ⟨r, hr⟩ : ∃ r, refR (pl cs) = r := ⟨_, rfl⟩
      have Hr := Lib.hid hr
      rw [hr]
      clear hr
      by_cases h0 : r = 0
      · have h1 : (r != 0) = false := by simp [h0]
        have H0 : Hid (refR (pl cs) = 0) := Lib.hid (by rw [Hr.out]; exact h0)
        clear h0
        obtain ⟨p0, p1, p2, p3, p4, p5, p6, p7, p8⟩ := (HQ.out.below Hb.out HlV.out).allG
        try simp only at p0 p1 p2 p3 p4 p5 p6 p7 p8
        have lb : w.heap.size < w3.heap.size := Nat.lt_of_lt_of_le HlV.out Hb.out.size
        go_wp2_with fail
        clear p0 p1 p2 p3 p4 p5 p6 p7 p8 lb
        refine (picks_c (⟨nm, fr, wt, o0, o1, eA, en, ec, ee, pA, pn, pc, ps, gr, aA, an, ac⟩ : Vq) A n c cs _ ((HX.out.after HVb.out).after Hb.out) ((HA.out.after HVb.out).after Hb.out) hn hp).mono ?_
        rintro e w5 ⟨rfl, hb⟩
        replace Hb := Lib.hid (below_via Hb.out hb)
        clear hb h1
        dsimp only
        cases hpk : picksB ps (pl cs)
        · clear hpk
          go_wp2_with fail
          refine (gfixed_c _ ((HGl.out.after HVb.out).after Hb.out)).mono ?_
          rintro e wz ⟨rfl, hb⟩
          have HF := Lib.hid (below_via HVb.out (below_via Hb.out hb))
          clear hb Hb
          go_wp2_with fail
          go_ret
          exact ⟨rfl, HF.out⟩
        · have Hpk := Lib.hid hpk
          clear hpk
          have B5 := HQ.out.below Hb.out HlV.out
          have F5 : Hid (Bf w5 w.heap.size #[.string nm, .string fr, .string wt, .int .i64 o0, .int .i64 o1, .slice eA en ec, .slice pA pn pc, .bool gr, .slice aA an ac] 28) := Lib.hid B5
          obtain ⟨p0, p1, p2, p3, p4, p5, p6, p7, p8⟩ := B5.allG
          try simp only at p0 p1 p2 p3 p4 p5 p6 p7 p8
          have t7 := F5.out.thaw 7
          have t8 := F5.out.thaw 8
          have lb : w.heap.size < w5.heap.size := Nat.lt_of_lt_of_le HlV.out Hb.out.size
          go_wp2_with fail
          obtain ⟨Y, hY⟩ : ∃ Y, (((w5.setCell ⟨w.heap.size, 7, none⟩ (.bool true)).setCell ⟨w.heap.size, 8, none⟩ (.slice (some ⟨w5.heap.size, 0, none⟩) 2 2)).alloc (.cells #[.int .i64 0, .int .i64 0, .int .i64 1, .int .i64 col] 32)) = Y := ⟨_, rfl⟩
          obtain ⟨vb, hvb⟩ : ∃ vb, w.heap.size = vb := ⟨_, rfl⟩
          have HbY : Hid (Below w.heap.size w Y) := Lib.hid (by
            rw [← hY]
            exact (((below_via HVb.out Hb.out).setCell (Nat.le_refl _) (p := ⟨w.heap.size, 7, none⟩) _).setCell (Nat.le_refl _) (p := ⟨w.heap.size, 8, none⟩) _).alloc (by simp [World.setCell]; omega) _)
          have HQY : Hid (Bf Y vb #[.string nm, .string fr, .string wt, .int .i64 o0, .int .i64 o1, .slice eA en ec, .slice pA pn pc, .bool true, .slice (some ⟨w5.heap.size, 0, none⟩) 2 2] 28) := Lib.hid (by
            rw [← hY, ← hvb]
            exact (((F5.out.set 7 (.bool true)).set 8 (.slice (some ⟨w5.heap.size, 0, none⟩) 2 2))).over _)
          have HLY : Hid (SlG Y (some ⟨w5.heap.size, 0, none⟩) 2 rdA [(0, 0), (1, col)]) := Lib.hid (by
            rw [← hY]
            exact SlG.newAt (by simp [World.setCell]) (rd := rdA) (fun _ => rfl) [(0, 0), (1, col)] rfl)
          have Hlvb : Hid (vb < Y.heap.size) := Lib.hid HQY.out.lt
          rw [hY]
          obtain ⟨ga, hga⟩ : ∃ ga, w5.heap.size = ga := ⟨_, rfl⟩
          rw [hga] at HQY HLY ⊢
          clear hY p0 p1 p2 p3 p4 p5 p6 p7 p8 t7 t8 lb F5 hga B5
          rw [hvb]
          refine (rowsG_c (⟨nm, fr, wt, o0, o1, eA, en, ec, ee, pA, pn, pc, ps, true, some ⟨ga, 0, none⟩, 2, 2⟩ : Vq) [(0, 0), (1, col)] A n c cs Y (by have h := HX.out.after HbY.out; exact ⟨h.1, h.2, h.3, h.4, h.5, h.6, h.7⟩) HLY.out rfl (.inl (by show 2 ≤ _; omega)) (HA.out.after HbY.out) (by omega) (HGl.out.after HbY.out)).mono ?_
          rintro e y1 ⟨A1, g, c1, os, er, rfl, hS⟩
          have HB1 := Lib.hid hS.bag
          have Hsaid : Hid (er = (rowsF ps true [(0, 0), (1, col)] (pl cs)).2 ∧ pl os = (rowsF ps true [(0, 0), (1, col)] (pl cs)).1) := Lib.hid ⟨hS.er2, hS.said⟩
          have HbY1 := Lib.hid (below_via HbY.out hS.below)
          have HQ1 := Lib.hid (HQY.out.after hS.below Hlvb.out)
          have Hlv1 := Lib.hid HQ1.out.lt
          clear hS HbY HQY HLY Hlvb Hb
          go_wp2_with fail
          have hag := agg_c A n c cs 0 0 y1 (HA.out.after HbY1.out) (by omega)
          rw [aggF_okC H0.out, show aggR 0 0 (pl cs) = (iv (cntB (pl cs)), 0) from rfl] at hag
          obtain ⟨N, hN⟩ : ∃ N, cntB (pl cs) = N := ⟨_, rfl⟩
          rw [hN] at hag
          have HN := Lib.hid hN
          have Hag := Lib.hid hag
          clear hN hag
          refine Hag.out.mono ?_
          rintro e y2 ⟨rfl, hb⟩
          obtain ⟨Z, hZ⟩ : ∃ Z, y2.alloc (.cells #[.int .i64 (iv N).k, .int .i64 (iv N).n, .string (iv N).s] 39) = Z := ⟨_, rfl⟩
          have HbZ1 : Hid (Below y1.heap.size y1 Z) := Lib.hid (by rw [← hZ]; exact below_via hb (below_one _ _))
          have HbZ := Lib.hid (below_via HbY1.out HbZ1.out)
          have HB2 := Lib.hid (HB1.out.after HbZ1.out)
          have HQ2 := Lib.hid (HQ1.out.after HbZ1.out Hlv1.out)
          have HNb : Hid (Bf Z y2.heap.size #[.int .i64 2, .int .i64 N, .string ⟨#[]⟩] 39) := Lib.hid (by rw [← hZ]; exact Bf.new _ _ _)
          have Hlv2 := Lib.hid HQ2.out.lt
          obtain ⟨nb, hnb⟩ : ∃ nb, y2.heap.size = nb := ⟨_, rfl⟩
          rw [hnb] at HNb
          clear hb Hag
          go_wp2_with fail
          clear hZ hnb
          have hag := agg_c A n c cs 1 col Z (HA.out.after HbZ.out) (by omega)
          rw [aggF_okC H0.out] at hag
          obtain ⟨⟨S, ge⟩, hS⟩ : ∃ R, aggR 1 col (pl cs) = R := ⟨_, rfl⟩
          rw [hS] at hag
          have HS := Lib.hid hS
          have Hag := Lib.hid hag
          clear hS hag HB1 HQ1 Hlv1 HbY1 HbZ1
          refine Hag.out.mono ?_
          rintro e y3 ⟨rfl, hb⟩
          obtain ⟨U, hU⟩ : ∃ U, y3.alloc (.cells #[.int .i64 S.k, .int .i64 S.n, .string S.s] 39) = U := ⟨_, rfl⟩
          have HbU1 : Hid (Below Z.heap.size Z U) := Lib.hid (by rw [← hU]; exact below_via hb (below_one _ _))
          have HbU := Lib.hid (below_via HbZ.out HbU1.out)
          have HBU := Lib.hid (HB2.out.after HbU1.out)
          have HQU := Lib.hid (HQ2.out.after HbU1.out Hlv2.out)
          have HNU := Lib.hid (HNb.out.after HbU1.out HNb.out.lt)
          have HSU : Hid (Bf U y3.heap.size #[.int .i64 S.k, .int .i64 S.n, .string S.s] 39) := Lib.hid (by rw [← hU]; exact Bf.new _ _ _)
          obtain ⟨sb, hsb⟩ : ∃ sb, y3.heap.size = sb := ⟨_, rfl⟩
          rw [hsb] at HSU
          have Htwo := Lib.hid (rowsF_two (i := col) H0.out (show ps.length ≤ 20 by rw [Hpl.out]; exact hp))
          have hgn := HBU.out.len
          clear hb Hag HB2 HQ2 HNb Hlv2 HbZ HbU1
          by_cases he : errG ps [(0, 0), (1, col)] (pl cs) (pickP ps (pl cs)) = 0
          · have h6 := Hsaid.out
            rw [Htwo.out, if_pos he] at h6
            obtain ⟨h6a, h7a⟩ := h6
            obtain rfl : er = 0 := h6a
            have h7 : pl os = valG ps [(0, 0), (1, col)] (pl cs) (pickP ps (pl cs)) := h7a
            have H7 := Lib.hid h7
            have HC := Lib.hid (cnt_ok (i := col) H0.out (show (pl cs).length ≤ 60 by rw [pl_len, HA.out.len]; exact hn) (show ps.length ≤ 20 by rw [Hpl.out]; exact hp) Hpk.out he)
            rw [← h7] at HC
            clear h7a h7 he Htwo Hsaid
            go_wp2_with fail
            obtain ⟨W, hW⟩ : ∃ W, U.alloc (.cells #[.int .i64 0, .int .i64 0, .string ⟨#[]⟩] 39) = W := ⟨_, rfl⟩
            obtain ⟨zb, hzb⟩ : ∃ zb, U.heap.size = zb := ⟨_, rfl⟩
            have HbW : Hid (Below zb U W) := Lib.hid (by rw [← hW, ← hzb]; exact below_one _ _)
            have HzW : Hid (Bf W zb #[.int .i64 0, .int .i64 0, .string ⟨#[]⟩] 39) := Lib.hid (by rw [← hW, ← hzb]; exact Bf.new _ _ _)
            rw [hW, hzb]
            clear hW hU hsb
            have Hltz : Hid (vb < zb ∧ nb < zb ∧ sb < zb) := Lib.hid (by rw [← hzb]; exact ⟨HQU.out.lt, HNU.out.lt, HSU.out.lt⟩)
            have Hzb := Lib.hid hzb
            clear hzb hgn
            obtain ⟨dd, hdd⟩ : ∃ dd, decide ((20 : Int) < (pn : Int)) = dd := ⟨_, rfl⟩
            try rw [hdd]
            clear hdd
            have Hg := Lib.hid HBU.out.len
            have Hg6 : Hid (g ≤ 60) := Lib.hid (by have h1 := HC.out.len; rw [pl_len, Hg.out] at h1; exact h1)
            have hg6 := Hg6.out
            go_loopw [13, 15, 16] (fun v o i wr => ∃ (j : Nat) (z : Int) (a : Bool) (s : Int), j ≤ g ∧ v = .int .i64 z ∧ o = .bool true ∧ i = .int .i64 j ∧ Hid (CntAt ps col (pl cs) j z a s) ∧ Hid (Below zb U wr) ∧ Hid (Bx wr zb (sumS a s))) (fun _ _ i _ => g - (intOf i).toNat)
            case atStart => exact ⟨0, 0, false, 0, Nat.zero_le _, rfl, rfl, rfl, Lib.hid (CntAt.zero _ _ _), HbW, HzW⟩
            case round =>
              obtain ⟨j, z, a, s, hj, rfl, rfl, rfl, hc, hb, hz⟩ := hrel
              have HbV : Hid (Below U.heap.size U wr) := Lib.hid (by rw [Hzb.out]; exact hb.out)
              by_cases hlt : j < g
              · have HBr := HBU.out.after HbV.out
                obtain ⟨bb, off, rfl⟩ := HBr.sl.some2 (k := j) (by rw [HBr.len]; exact hlt)
                obtain ⟨x, hx⟩ : ∃ x, os[j]? = some x := ⟨_, List.getElem?_eq_getElem (by rw [HBr.len]; exact hlt)⟩
                obtain ⟨l0, d0, d1⟩ := HBr.sl.cell2 hx
                have Hxr := Lib.hid (HBr.each x (List.mem_of_getElem? hx))
                obtain ⟨N2, a2, s2, e1, e2, e3, e4, e5, e6, e7, e8, e9⟩ := hc.out.next HC.out (pl_at hx)
                clear hx HBr
                obtain ⟨⟨xA, xn, xc, xs⟩, xN⟩ := x
                try simp only at e1 e2 e3 e4 d0 d1
                rw [Hpl.out] at e2 e3 e4
                have hxn : xs.length = xn := Hxr.out.hd.len
                obtain ⟨rb, ro, y, hA1, hlr, hy, r0, r1, r2⟩ := Hxr.out.hd.sl.at3 (k := pn) (show pn < xs.length by omega)
                obtain ⟨rb', ro', y', hA2, _, hy', r3, r4, r5⟩ := Hxr.out.hd.sl.at3 (k := pn + 1) (show pn + 1 < xs.length by omega)
                try simp only at hA1 hA2 hy hy'
                subst hA1
                cases hA2
                obtain rfl : y = iv N2 := Option.some.inj (hy.symm.trans e3)
                obtain rfl : y' = sumS a2 s2 := Option.some.inj (hy'.symm.trans e4)
                obtain rfl : xn = pn + 2 := by rw [← hxn, e2]
                obtain rfl : xN = 1 := e1
                have Hstep := Lib.hid e9
                have H7 := Lib.hid e7
                have H8 := Lib.hid e8
                obtain ⟨v2, hv2⟩ : ∃ v2, sumS a2 s2 = v2 := ⟨_, rfl⟩
                have Hv2 := Lib.hid hv2
                rw [hv2] at r3 r4 r5
                obtain ⟨v1, hv1⟩ : ∃ v1, sumS a s = v1 := ⟨_, rfl⟩
                have Hv1 := Lib.hid hv1
                rw [hv1] at hz
                have hnu : (iv N2).n = N2 := rfl
                rw [hnu] at r1
                clear e2 e3 e4 e7 e8 e9 hy hy' hxn hnu hv1 hv2 r0 r2
                have p6 := (HQU.out.after HbV.out HQU.out.lt).cell 6
                have lvb : vb < wr.heap.size := Nat.lt_of_lt_of_le Hltz.out.1 (Nat.le_of_lt hz.out.lt)
                have hjgo : (j : Int) < g := by omega
                have z0 := hz.out.cell0
                have z1 := hz.out.cell1
                have z2 := hz.out.cell2
                have y0 := hz.out.frozen 0
                have y1 := hz.out.frozen 1
                have y2 := hz.out.frozen 2
                have lz := hz.out.lt
                have hw : wrap64 (z + N2) = z + N2 := by
                  have h1 := hc.out.lo
                  have h2 := Hg6.out
                  unfold wrap64
                  omega
                have hN1 : ¬ N2 < 1 := by omega
                clear e5 e6
                cases a
                · have k1 : (v1.k == 0) = true := by rw [← Hv1.out]; rfl
                  have Hs0 : Hid (s = 0) := Lib.hid (hc.out.out rfl)
                  have HNX : Hid (CntAt ps col (pl cs) (j + 1) (z + N2) (false || a2) (s + s2)) := Lib.hid (Hstep.out fun h => by rw [Hs0.out, Int.zero_add]; exact H7.out (by simpa using h))
                  have Hsv : Hid (sumS (false || a2) (s + s2) = v2) := Lib.hid (by rw [Hs0.out, Int.zero_add, Bool.false_or]; exact Hv2.out)
                  go_wp2_with fail
                  go_roundw
                  case rel => exact ⟨j + 1, z + N2, false || a2, s + s2, by omega, by go_num, rfl, by go_num, HNX, Lib.hid ((put3_below hb.out (Nat.le_refl _) v2).alloc (by rw [put3_sizeC]; exact Nat.le_of_lt hz.out.lt) _), Lib.hid (by rw [Hsv.out]; exact (hz.out.put v2).alloc _)⟩
                  case measure => simp [intOf]; omega
                · have k1 : (v1.k == 0) = false := by rw [← Hv1.out]; rfl
                  cases a2
                  · have k2 : (v2.k != 0) = false := by rw [← Hv2.out]; rfl
                    have Hs0 : Hid (s2 = 0) := Lib.hid (H8.out rfl)
                    have HNX : Hid (CntAt ps col (pl cs) (j + 1) (z + N2) (true || false) (s + s2)) := Lib.hid (Hstep.out fun h => by rw [Hs0.out, Int.add_zero]; exact hc.out.fit rfl)
                    have Hsv : Hid (sumS (true || false) (s + s2) = v1) := Lib.hid (by rw [Hs0.out, Int.add_zero]; exact Hv1.out)
                    go_wp2_with fail
                    go_roundw
                    case rel => exact ⟨j + 1, z + N2, true || false, s + s2, by omega, by go_num, rfl, by go_num, HNX, Lib.hid (hb.out.alloc (Nat.le_of_lt hz.out.lt) _), Lib.hid (by rw [Hsv.out]; exact hz.out.alloc _)⟩
                    case measure => simp [intOf]; omega
                  · have k2 : (v2.k != 0) = true := by rw [← Hv2.out]; rfl
                    have HI1 : Hid (I6n v1.n) := Lib.hid (by rw [← Hv1.out]; exact hc.out.fit rfl)
                    have HI2 : Hid (I6n v2.n) := Lib.hid (by rw [← Hv2.out]; exact H7.out rfl)
                    have HaF : Hid (I6n (s + s2) → addR v1 v2 = (iv (s + s2), true)) := Lib.hid fun h => by rw [← Hv1.out, ← Hv2.out]; exact addR_in h
                    have HaO : Hid (¬ I6n (s + s2) → addR v1 v2 = (nl, false)) := Lib.hid fun h => by rw [← Hv1.out, ← Hv2.out]; exact addR_out (hc.out.fit rfl) (H7.out rfl) h
                    go_wp2_with fail
                    refine (r1add_c v1 v2 _ HI1.out HI2.out).mono ?_
                    rintro en w7 ⟨rfl, hb7⟩
                    have Hb7 : Hid (Below wr.heap.size wr w7) := Lib.hid (below_via (below_one _ _) hb7)
                    have Hz7 : Hid (Bx w7 zb v1) := Lib.hid (hz.out.after Hb7.out)
                    have HbU7 : Hid (Below zb U w7) := Lib.hid (hb.out.trans (Hb7.out.mono (Nat.le_of_lt hz.out.lt)))
                    clear hb7 z0 z1 z2 y0 y1 y2 lz r1 r3 r4 r5 d0 d1 l0 hlr p6 lvb
                    have z0 := Hz7.out.cell0
                    have z1 := Hz7.out.cell1
                    have z2 := Hz7.out.cell2
                    have y0 := Hz7.out.frozen 0
                    have y1 := Hz7.out.frozen 1
                    have y2 := Hz7.out.frozen 2
                    have lz := Hz7.out.lt
                    by_cases h6 : I6n (s + s2)
                    · rw [HaF.out h6]
                      have HNX : Hid (CntAt ps col (pl cs) (j + 1) (z + N2) (true || true) (s + s2)) := Lib.hid (Hstep.out fun h => h6)
                      clear h6
                      go_wp2_with fail
                      go_roundw
                      case rel => exact ⟨j + 1, z + N2, true || true, s + s2, by omega, by go_num, rfl, by go_num, HNX, Lib.hid ((put3_below HbU7.out (Nat.le_refl _) (iv (s + s2))).alloc (by rw [put3_sizeC]; exact Nat.le_of_lt Hz7.out.lt) _), Lib.hid ((Hz7.out.put (iv (s + s2))).alloc _)⟩
                      case measure => simp [intOf]; omega
                    · rw [HaO.out h6]
                      clear h6
                      have HE : Hid (Below w.heap.size w w7) := Lib.hid (below_via HbU.out (below_via HbV.out Hb7.out))
                      have HF : Hid (w.heap.size ≤ zb) := Lib.hid (Nat.le_of_lt (hvb ▸ Hltz.out.1))
                      go_wp2_with fail
                      go_ret
                      exact ⟨rfl, (put3_below HE.out HF.out nl).alloc (by rw [put3_sizeC]; exact HE.out.size) _⟩
              · obtain rfl : j = g := by omega
                have hd := CntAt.done HC.out (by rw [pl_len, Hg.out]; exact hc.out)
                rw [HN.out, HS.out] at hd
                obtain ⟨rfl, hd2⟩ := hd
                obtain ⟨rfl, rfl⟩ := Prod.mk.inj hd2
                clear hd2
                obtain ⟨v1, hv1⟩ : ∃ v1, sumS a s = v1 := ⟨_, rfl⟩
                rw [hv1] at hz HS HSU
                have nN := HNU.out.after HbV.out HNU.out.lt
                have nS := HSU.out.after HbV.out HSU.out.lt
                have n1 := nN.cell 1
                have ln := nN.lt
                have s0 := nS.cell 0
                have s1 := nS.cell 1
                have s2 := nS.cell 2
                have ls := nS.lt
                have z0 := hz.out.cell0
                have z1 := hz.out.cell1
                have z2 := hz.out.cell2
                have lz := hz.out.lt
                have ss : (⟨v1.k, v1.n, v1.s⟩ : Val).eq ⟨v1.k, v1.n, v1.s⟩ = true := Val.eq_self _
                have HE : Hid (Below w.heap.size w wr) := Lib.hid (below_via HbU.out HbV.out)
                clear nN nS hv1
                go_wp2_with fail
                go_ret
                exact ⟨rfl, HE.out⟩
          · have h6 := Hsaid.out
            rw [Htwo.out, if_neg he] at h6
            obtain ⟨h6a, h7⟩ := h6
            obtain rfl : er = 110 := h6a
            obtain rfl : g = 0 := by rw [← hgn, ← pl_len, h7]; rfl
            clear h7 hgn he Htwo Hsaid
            go_wp2_with fail
            go_ret
            exact ⟨rfl, HbU.out⟩
      · have h1 : (r != 0) = true := by simp [h0]
        clear h0
        go_wp2_with fail
        refine (gfixed_c _ ((HGl.out.after HVb.out).after Hb.out)).mono ?_
        rintro e wz ⟨rfl, hb⟩
        have HF := Lib.hid (below_via HVb.out (below_via Hb.out hb))
        clear hb Hb
        go_wp2_with fail
        go_ret
        exact ⟨rfl, HF.out⟩
    · have hp1 : (20 : Int) < pn := by omega
      go_wp2_with fail
      refine (gfixed_c _ ((HGl.out.after HVb.out).after Hb.out)).mono ?_
      rintro e wz ⟨rfl, hb⟩
      have HF := Lib.hid (below_via HVb.out (below_via Hb.out hb))
      clear hb Hb
      go_wp2_with fail
      go_ret
      exact ⟨rfl, HF.out⟩
end Go.Proofs.YtldaoepemofhlaaGreatDoor
