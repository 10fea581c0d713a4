/-
  GroupTells, walked. Of all views, bags and aggregates.
-/
import Derived.Test.YtldaoepemofhlaaGreatDoorR05
import Derived.Test.YtldaoepemofhlaaGreatDoorR06
import Derived.Deep.RegionHeld3
import Derived.Deep.DeepCutAuto
namespace Go.Proofs.YtldaoepemofhlaaGreatDoor
open Go Go.RowKit

theorem mapB_pickG (ps : List Int) (hp : ps.length ≤ 40) : ∀ b o : Bg, mapB (pickF ps) b o = bothB o (pickL ps b)
  | [], _ => rfl
  | x :: b, o => by
    show mapB (pickF ps) b ((pickF ps x.1).foldl (fun o y => addB o y.1 (y.2 * x.2)) o) = _
    rw [mapB_pickG ps hp b]
    unfold pickL pickF
    rw [List.filterMap_cons]
    cases hq : pickR x.1 ps with
    | none => rfl
    | some q =>
      have hl : q.length ≤ 40 := by rw [pick_len ps x.1 q hq]; exact hp
      dsimp only [Option.map]
      rw [if_pos hl]
      show bothB (addB o q (1 * x.2)) _ = bothB (addB o q x.2) _
      rw [Int.one_mul]
theorem bd_gok {b : Bg} (hG : GOk b) : Bd 100000 b := fun x hx => by
  obtain ⟨k, hk⟩ := List.mem_iff_getElem?.1 hx
  have := hG.n hk
  omega
/-- What is picked, of a bag that is to be grouped. -/
theorem pickP_G {ps : List Int} {b : Bg} (hm : mayBag b = true) (hp : ps.length ≤ 40) (hG : GOk b) (hl : b.length ≤ 60) : pickP ps b = pickB ps b := by
  have hb := bd_gok hG
  have h1 : Bd 100000 (pickL ps b) := fun y hy => by
    obtain ⟨x, hx, _, e⟩ := pickL_mem hy
    rw [e]
    exact hb x hx
  have h2 : ∀ y ∈ pickL ps b, mayR y.1 = true ∧ y.2 ≠ 0 := fun y hy => by
    obtain ⟨x, hx, hq, e⟩ := pickL_mem hy
    obtain ⟨k1, _, _, k2⟩ := okC_parts (may_okC hm x hx)
    exact ⟨pick_mayR hq hp k2, by rw [e]; exact k1⟩
  have h3 : (pickL ps b).length ≤ 60 := Nat.le_trans (pickL_len ps b) hl
  have ha : Asc (bothB [] (pickL ps b)) := asc_both _ _ List.Pairwise.nil
  have h4 : mayBag (bothB [] (pickL ps b)) = true := by
    refine may_of ha fun x hx => ?_
    have k1 : x.2 ≠ 0 := nz_both _ [] (fun y hy => by cases hy) x hx
    have k2 := look_mem _ x ha hx
    rw [look_both _ _ _ List.Pairwise.nil] at k2
    have k3 : lookB [] x.1 = 0 := rfl
    have k4 := sum_bd 100000 (by decide) (pickL ps b) x.1 h1
    have k5 := key_both (fun r => mayR r = true) (pickL ps b) [] (fun y hy => by cases hy) (fun y hy => (h2 y hy).1) x hx
    exact okC_of k1 (by omega) (by omega) k5
  unfold pickP plusR pickB
  rw [hm, decide_eq_true hp, ones_plus, h4, all_ones, mapB_pickG ps hp]
  have h5 : (pickL ps b).all okC = true := List.all_eq_true.2 fun x hx => okC_of (h2 x hx).2 (by have := h1 x hx; omega) (by have := h1 x hx; omega) (h2 x hx).1
  rw [h5]
  rfl
/-- Can all columns be picked? -/
def picksB (ps : List Int) (b : Bg) : Bool := b.all fun x => ps.all fun p => decide (0 ≤ p) && decide (p < x.1.length)
theorem pick_some {xs : List Val} : ∀ {ps : List Int}, (ps.all fun p => decide (0 ≤ p) && decide (p < xs.length)) = true → ∃ q, pickR xs ps = some q
  | [], _ => ⟨[], by rw [pickR]⟩
  | p :: ps, h => by
    rw [List.all_cons, Bool.and_eq_true, Bool.and_eq_true, decide_eq_true_eq, decide_eq_true_eq] at h
    obtain ⟨q, hq⟩ := pick_some (xs := xs) (ps := ps) h.2
    have hx : xs[p.toNat]? = some (xs[p.toNat]'(by omega)) := List.getElem?_eq_getElem _
    rw [pickR, if_pos ⟨h.1.1, h.1.2⟩, hx, hq]
    exact ⟨_, rfl⟩
/-- A sum over rows. -/
def wtS (f : List Val × Int → Int) : Bg → Int
  | [] => 0
  | x :: b => f x + wtS f b
theorem wtS_cnt : ∀ b : Bg, wtS (fun x => x.2) b = cntB b
  | [] => rfl
  | x :: b => by rw [wtS, cntB, wtS_cnt b]
theorem wtS_sum (i : Int) : ∀ b : Bg, wtS (fun x => if (atR x.1 i).k = 2 then (atR x.1 i).n * x.2 else 0) b = sumF id i b
  | [] => rfl
  | x :: b => by rw [wtS, sumF, wtS_sum i b]; rfl
/-- Group by group. -/
def grpS (f : List Val × Int → Int) (ps : List Int) (b : Bg) : List (List Val) → Int
  | [] => 0
  | k :: l => wtS f (inB ps k b) + grpS f ps b l
theorem inB_cons (ps : List Int) (k : List Val) (x : List Val × Int) (b : Bg) : inB ps k (x :: b) = if pickR x.1 ps = some k then x :: inB ps k b else inB ps k b := by
  unfold inB stayB
  rw [List.filter_cons]
  by_cases h : pickR x.1 ps = some k
  · rw [if_pos h, if_pos (show decide (pickR x.1 ps = some k) = true from decide_eq_true h)]
  · rw [if_neg h, if_neg (show ¬ decide (pickR x.1 ps = some k) = true by rw [decide_eq_false h]; exact Bool.false_ne_true)]
theorem grpS_nil (f : List Val × Int → Int) (ps : List Int) : ∀ l : List (List Val), grpS f ps [] l = 0
  | [] => rfl
  | k :: l => by rw [grpS, grpS_nil f ps l]; rfl
theorem grpS_out (f : List Val × Int → Int) (ps : List Int) (x : List Val × Int) (b : Bg) {q : List Val} (hq : pickR x.1 ps = some q) : ∀ l : List (List Val), q ∉ l → grpS f ps (x :: b) l = grpS f ps b l
  | [], _ => rfl
  | k :: l, h => by
    rw [grpS, grpS, inB_cons, if_neg (by rw [hq]; intro e; exact h (by rw [Option.some.inj e]; simp)), grpS_out f ps x b hq l (fun hl => h (List.mem_cons_of_mem _ hl))]
theorem grpS_in (f : List Val × Int → Int) (ps : List Int) (x : List Val × Int) (b : Bg) {q : List Val} (hq : pickR x.1 ps = some q) : ∀ l : List (List Val), l.Nodup → q ∈ l → grpS f ps (x :: b) l = f x + grpS f ps b l
  | [], _, h => by cases h
  | k :: l, hn, h => by
    obtain ⟨h1, h2⟩ := List.nodup_cons.1 hn
    rw [grpS, grpS, inB_cons]
    by_cases e : q = k
    · subst e
      rw [if_pos hq, wtS, grpS_out f ps x b hq l h1]
      omega
    · rw [if_neg (by rw [hq]; intro e2; exact e (Option.some.inj e2)), grpS_in f ps x b hq l h2 (by
        rcases List.mem_cons.1 h with h | h
        · exact absurd h e
        · exact h)]
      omega
/-- Each row is in just one group. -/
theorem grpS_all (f : List Val × Int → Int) (ps : List Int) {l : List (List Val)} (hn : l.Nodup) : ∀ b : Bg, (∀ x ∈ b, ∃ q ∈ l, pickR x.1 ps = some q) → grpS f ps b l = wtS f b
  | [], _ => grpS_nil f ps l
  | x :: b, h => by
    obtain ⟨q, hl, hq⟩ := h x (by simp)
    rw [grpS_in f ps x b hq l hn hl, grpS_all f ps hn b fun y hy => h y (List.mem_cons_of_mem _ hy), wtS]
theorem grpS_take (f : List Val × Int → Int) (ps : List Int) (b : Bg) : ∀ (l : List (List Val)) (j : Nat) (k : List Val), l[j]? = some k → grpS f ps b (l.take (j + 1)) = grpS f ps b (l.take j) + wtS f (inB ps k b)
  | [], _, _, h => by simp at h
  | q :: l, 0, k, h => by
    have e : q = k := by simpa using h
    subst e
    show wtS f (inB ps q b) + grpS f ps b [] = grpS f ps b [] + _
    simp [grpS]
  | q :: l, j + 1, k, h => by
    have h2 := grpS_take f ps b l j k (by simpa using h)
    rw [List.take_succ_cons, List.take_succ_cons, grpS, grpS, h2]
    omega
/-- Is there a number in a column, group by group? -/
def grpA (i : Int) (ps : List Int) (b : Bg) (l : List (List Val)) : Bool := l.any fun k => anyI i (inB ps k b)
theorem grpA_take (i : Int) (ps : List Int) (b : Bg) {l : List (List Val)} {j : Nat} {k : List Val} (h : l[j]? = some k) : grpA i ps b (l.take (j + 1)) = (grpA i ps b (l.take j) || anyI i (inB ps k b)) := by
  unfold grpA
  rw [List.take_add_one, h, List.any_append]
  congr 1
  exact Bool.or_false _
theorem grpA_all (i : Int) (ps : List Int) {l : List (List Val)} {b : Bg} (h : ∀ x ∈ b, ∃ q ∈ l, pickR x.1 ps = some q) : grpA i ps b l = anyI i b := by
  rw [Bool.eq_iff_iff]
  unfold grpA
  rw [List.any_eq_true]
  have iff : ∀ c : Bg, anyI i c = true ↔ ∃ x ∈ c, (atR x.1 i).k = 2 := fun c => by
    unfold anyI
    rw [List.any_eq_true]
    exact ⟨fun ⟨x, hx, h⟩ => ⟨x, hx, of_decide_eq_true h⟩, fun ⟨x, hx, h⟩ => ⟨x, hx, decide_eq_true h⟩⟩
  constructor
  · rintro ⟨k, _, hk⟩
    obtain ⟨x, hx, h2⟩ := (iff _).1 hk
    exact (iff _).2 ⟨x, (List.mem_filter.1 hx).1, h2⟩
  · intro hb
    obtain ⟨x, hx, h2⟩ := (iff _).1 hb
    obtain ⟨q, hq, hp⟩ := h x hx
    exact ⟨q, hq, (iff _).2 ⟨x, List.mem_filter.2 ⟨hx, decide_eq_true hp⟩, h2⟩⟩
/-- The keys of groups: each once; each row has one. -/
theorem keys_ok {ps : List Int} {b : Bg} (hm : mayBag b = true) (hG : GOk b) (hl : b.length ≤ 60) (hp : ps.length ≤ 20) (ha : picksB ps b = true) :
    ((pickP ps b).map (·.1)).Nodup ∧ (∀ x ∈ b, ∃ q ∈ (pickP ps b).map (·.1), pickR x.1 ps = some q) ∧ (∀ y ∈ pickP ps b, y.1.length = ps.length ∧ inB ps y.1 b ≠ []) := by
  have hpos : Pos b := fun x hx => by
    have h1 := hG.1 x hx
    have h2 := may_nz hm x hx
    omega
  rw [pickP_G hm (by omega) hG hl]
  have hk : (pickB ps b).map (·.1) = keysB ps b := rfl
  rw [hk]
  refine ⟨?_, fun x hx => ?_, fun y hy => ?_⟩
  · refine (keys_asc ps b).imp fun {a c} h e => ?_
    subst e
    have := cmpL_iff.2 (rfl : a = a)
    rw [h] at this
    cases this
  · obtain ⟨q, hq⟩ := pick_some (List.all_eq_true.1 ha x hx)
    exact ⟨q, (keys_mem hpos q).2 ⟨by omega, x, hx, hq⟩, hq⟩
  · have hy2 : y.1 ∈ keysB ps b := by rw [← hk]; exact List.mem_map.2 ⟨y, hy, rfl⟩
    exact ⟨key_len hpos hy2, ((key_in hpos y.1).1 hy2).2⟩
theorem aggE_two {b : Bg} {i : Int} : aggsE b [(0, 0), (1, i)] = (aggR 1 i b).2 := by
  rw [aggsE, aggsE, aggsE]
  have h0 : (aggR 0 0 b).2 = 0 := rfl
  rw [if_pos h0]
  split
  · next h => exact h.symm
  · rfl
theorem aggR1_err (i : Int) (b : Bg) : (aggR 1 i b).2 = 0 ∨ (aggR 1 i b).2 = 110 := by
  unfold aggR
  rw [if_neg (by decide), if_pos rfl]
  split
  · split
    · exact .inl rfl
    · exact .inr rfl
  · exact .inl rfl
theorem errG_110 (ps : List Int) (i : Int) (b : Bg) : ∀ l : Bg, errG ps [(0, 0), (1, i)] b l = 0 ∨ errG ps [(0, 0), (1, i)] b l = 110
  | [] => .inl rfl
  | x :: l => by
    rw [errG]
    split
    · exact errG_110 ps i b l
    · next h =>
      rw [aggE_two] at h ⊢
      rcases aggR1_err i (inB ps x.1 b) with h1 | h1
      · exact absurd h1 h
      · exact .inr h1
theorem errG_each {ps : List Int} {i : Int} {b : Bg} : ∀ {l : Bg}, errG ps [(0, 0), (1, i)] b l = 0 → ∀ x ∈ l, (aggR 1 i (inB ps x.1 b)).2 = 0
  | [], _, x, hx => by cases hx
  | y :: l, h, x, hx => by
    rw [errG] at h
    split at h
    · next h1 =>
      rcases List.mem_cons.1 hx with rfl | hx
      · rw [← aggE_two]; exact h1
      · exact errG_each h x hx
    · next h1 => exact absurd h h1
/-- What has been added so far. -/
def sumS (a : Bool) (s : Int) : Val := if a then iv s else nl
/-- A group's sum, where it is none too large. -/
theorem aggR_one {i : Int} {b : Bg} (h : (aggR 1 i b).2 = 0) : (aggR 1 i b).1 = sumS (anyI i b) (sumF id i b) ∧ (anyI i b = true → -9223372036854775808 ≤ sumF id i b ∧ sumF id i b ≤ 9223372036854775807) ∧ (anyI i b = false → sumF id i b = 0) := by
  have hn : anyI i b = false → sumF id i b = 0 := by
    intro h
    induction b with
    | nil => rfl
    | cons x b ih =>
      unfold anyI at h
      rw [List.any_cons, Bool.or_eq_false_iff] at h
      show (if (atR x.1 i).k = 2 then id (atR x.1 i).n * x.2 else 0) + sumF id i b = 0
      have h3 : (aggR 1 i b).2 = 0 := by
        unfold aggR
        rw [if_neg (by decide), if_pos rfl, if_neg (by unfold anyI; rw [h.2]; exact Bool.false_ne_true)]
      rw [if_neg (of_decide_eq_false h.1), ih h3 h.2]
      rfl
  revert h
  unfold aggR sumS
  rw [if_neg (by decide), if_pos rfl]
  split
  · next ha =>
    rw [ha]
    split
    · next hf => exact fun _ => ⟨rfl, fun _ => hf, nofun⟩
    · exact fun h => by cases h
  · next ha =>
    have ha2 : anyI i b = false := by simpa using ha
    rw [ha2]
    exact fun _ => ⟨rfl, nofun, fun _ => hn ha2⟩
end Go.Proofs.YtldaoepemofhlaaGreatDoor

namespace Go.Proofs.YtldaoepemofhlaaGreatDoor
open Go Go.RowKit
set_option maxRecDepth 100000
attribute [local go_sem ↓] Go.wp_at_zero Go.wp_at_succ

/-- What the document's Pick answers. -/
def PickSaid4 (w : World) (xs : List Val) (cs : List Int) (en : Ending) (w' : World) : Prop := ∃ (h : Hd) (ok : Bool), en = .returned (.tuple #[h.v, .bool ok]) ∧ Below w.heap.size w w' ∧ Hd.In w' h ∧ pickOk xs cs h ok ∧ h.n ≤ h.c
set_option maxHeartbeats 2000000 in
theorem rpick4_c (A B : Option Addr) (n c m d : Nat) (xs : List Val) (cs : List Int) (w : World) (hn : xs.length = n) (_hn1 : n ≤ maxLen) (hs : Sl w A xs) (hm : cs.length = m) (hm1 : m ≤ 100000) (hk : SlG w B 1 rdI cs) :
    Calls Tryz.prog 53 #[.slice A n c, .slice B m d] w fun en w' => PickSaid4 w xs cs en w' := by
  unfold maxLen at _hn1
  have Hs := Lib.hid hs
  have Hn := Lib.hid hn
  have Hm := Lib.hid hm
  have Hk := Lib.hid hk
  clear hs hn hm hk
  have H0 : Hid (OwnV (w.alloc (.cells #[] 39)) w.heap.size (.slice (some ⟨w.heap.size, 0, none⟩) 0 0) []) := Lib.hid (OwnG.made w w.heap.size _ #[] 0 (Nat.le_refl _) (Nat.zero_le _) rfl)
  have Hb0 : Hid (Below w.heap.size w (w.alloc (.cells #[] 39))) := Lib.hid (below_one _ _)
  go_enter Tryz.func53, Tryz.ntmps53
  go_wp2_with fail
  go_loopw [6, 7] (fun v i wr => ∃ (k : Nat) (l : List Val), k ≤ m ∧ i = .int .i64 k ∧ Hid (Below w.heap.size w wr) ∧ Hid (l.length = k) ∧ Hid (OwnV wr w.heap.size v l) ∧ Hid (pickR xs cs = (pickR xs (cs.drop k)).map (l ++ ·))) (fun _ i _ => m - (intOf i).toNat)
  case atStart => exact ⟨0, [], Nat.zero_le _, rfl, Hb0, Lib.hid rfl, H0, Lib.hid (by simp)⟩
  case round =>
    obtain ⟨k, l, hk, rfl, hb, hlen, ho, hl⟩ := hrel
    clear H0 Hb0
    obtain ⟨A1, c1, hv⟩ := ho.out.isSlice
    rw [hlen.out] at hv
    subst hv
    by_cases hlt : k < m
    · obtain ⟨b, off, y, rfl, hblt, hy, c0⟩ := Hk.out.at1 (by rw [Hm.out]; exact hlt)
      have d0 := (hb.out.cell (p := ⟨b, off + k, none⟩) hblt).trans (c0 _ rfl)
      have l0 : b < wr.heap.size := Nat.lt_of_lt_of_le hblt hb.out.size
      have hst := pickR_drop xs cs k y hy
      rw [Hn.out] at hst
      have Hst := Lib.hid hst
      clear hst hy c0 hblt
      have hlt' : (k : Int) < m := by omega
      by_cases hin : 0 ≤ y ∧ y < n
      · obtain ⟨j, rfl⟩ : ∃ j : Nat, y = j := ⟨y.toNat, by omega⟩
        have hj : j < n := by omega
        obtain ⟨b2, off2, x, rfl, hblt2, hx, e0, e1, e2⟩ := Hs.out.at3 (by rw [Hn.out]; exact hj)
        have d1 := (hb.out.cell (p := ⟨b2, off2 + j * 3, none⟩) hblt2).trans e0
        have d2 := (hb.out.cell (p := ⟨b2, off2 + j * 3 + 1, none⟩) hblt2).trans e1
        have d3 := (hb.out.cell (p := ⟨b2, off2 + j * 3 + 2, none⟩) hblt2).trans e2
        have l2 : b2 < wr.heap.size := Nat.lt_of_lt_of_le hblt2 hb.out.size
        have Hl1 : Hid (pickR xs cs = (pickR xs (cs.drop (k + 1))).map ((l ++ [x]) ++ ·)) := Lib.hid (by
          rw [hl.out, Hst.out, if_pos ⟨by omega, by omega⟩, Int.toNat_natCast, hx]
          simp [Function.comp_def])
        have hj0 : ¬ (j : Int) < 0 := by omega
        have hj1 : ¬ (j : Int) ≥ n := by omega
        have hj2 : (j : Int) < n := by omega
        clear e0 e1 e2 hx hin Hst hl hblt2
        obtain ⟨xk, xn, xs2⟩ := x
        try simp only at d1 d2 d3
        go_wp2_with (at_builtin; go_must (
          refine wpList_appG vOk rfl (.tmp 29) (.tmp 37) rfl w.heap.size _ l [⟨xk, xn, xs2⟩] (some ⟨wr.heap.size, 0, none⟩) 1 1 rfl (ho.out.alloc _) rfl rfl (SlG.new vOk.len [⟨xk, xn, xs2⟩] rfl) (by rw [hlen.out]; simp [maxLen]; omega) (by rw [hlen.out]; simp; omega) (by have := hb.out.size; simp; omega) ?_
          intro v3 w3 hv3 hg3
          have Hv3 := Lib.hid hv3
          have Hb3 := Lib.hid ((below_al hb.out _).grown hg3 (below_al hb.out _).size (fun k hk => (ho.out.lt k hk).1))
          clear hv3 hg3))
        go_roundw
        case rel => exact ⟨k + 1, _, by omega, by go_num, Hb3, Lib.hid (by rw [List.length_append, hlen.out]; rfl), Hv3, Hl1⟩
        case measure => simp [intOf]; omega
      · have hnone : Hid (pickR xs cs = none) := by
          have h2 := Hst.out
          rw [if_neg hin] at h2
          have h3 := hl.out
          rw [h2] at h3
          exact h3
        clear Hst
        rcases Int.lt_or_le y 0 with hy0 | hy0
        · clear hin
          go_wp2_with fail
          go_ret2
          unfold PickSaid4
          refine ⟨⟨none, 0, 0, []⟩, false, rfl, hb.out, ⟨rfl, Nat.zero_le _, .inl rfl⟩, ?_, Nat.le_refl _⟩
          unfold pickOk
          rw [hnone.out]
          exact ⟨rfl, rfl⟩
        · have hy1 : (n : Int) ≤ y := by omega
          have hy2 : ¬ y < 0 := by omega
          clear hin
          go_wp2_with fail
          go_ret2
          unfold PickSaid4
          refine ⟨⟨none, 0, 0, []⟩, false, rfl, hb.out, ⟨rfl, Nat.zero_le _, .inl rfl⟩, ?_, Nat.le_refl _⟩
          unfold pickOk
          rw [hnone.out]
          exact ⟨rfl, rfl⟩
    · obtain rfl : k = m := by omega
      have HP : Hid (pickOk xs cs ⟨A1, k, c1, l⟩ true) := Lib.hid (by
        have h3 := hl.out
        rw [show cs.drop k = [] from List.drop_eq_nil_of_le (by rw [Hm.out]; omega), pickR] at h3
        unfold pickOk
        rw [h3]
        simp)
      obtain ⟨h, hv, hIn, hxs, _, hrm⟩ := ho.out.hd
      obtain ⟨hA, hn9, hc9, hxs9⟩ := h
      simp only [Hd.v] at hv hxs
      injection hv with z1 z2 z3
      subst z1 z3 z2 hxs
      have HI := Lib.hid hIn
      have HR := Lib.hid hrm
      clear hIn hrm hl ho hlen
      go_wp2_with fail
      go_ret2
      unfold PickSaid4
      exact ⟨⟨_, _, _, _⟩, true, rfl, hb.out, HI.out, HP.out, HR.out⟩
end Go.Proofs.YtldaoepemofhlaaGreatDoor

namespace Go.Proofs.YtldaoepemofhlaaGreatDoor
open Go Go.RowKit
set_option maxRecDepth 100000
attribute [local go_sem ↓] Go.wp_at_zero Go.wp_at_succ

/-- What the document's Pick answers. -/
def rpickP (ps : List Int) (b : Bg) : Bg := if mayBag b && mayBag (pickB ps b) then pickB ps b else []
theorem mapB_take (F : List Val → List (List Val × Int)) (b o : Bg) (k : Nat) (x : List Val × Int) (h : b[k]? = some x) : mapB F (b.take (k + 1)) o = (F x.1).foldl (fun o y => addB o y.1 (y.2 * x.2)) (mapB F (b.take k) o) := by
  unfold mapB
  rw [List.take_add_one, h, List.foldl_append]
  rfl
set_option maxHeartbeats 8000000 in
theorem rpick10_c (x : Vq) (A : Option Addr) (n c : Nat) (cs : List Ct) (w : World) (hx : Vq.In w x) (hA : BgIn w A n cs) (hn : n ≤ 10000) (hp : x.pn ≤ 1000) :
    Calls Tryz.prog 34 #[x.w, .slice A n c] w fun e w' => ∃ A' n' c' os, e = .returned (.slice A' n' c') ∧ Below w.heap.size w w' ∧ BgIn w' A' n' os ∧ pl os = rpickP x.ps (pl cs) := by
  have HX := Lib.hid hx
  have HA := Lib.hid hA
  clear hx hA
  obtain ⟨nm, fr, wt, o0, o1, eA, en, ec, ee, pA, pn, pc, ps, gr, aA, an, ac⟩ := x
  have hb0 : Below w.heap.size w ((w.alloc (.cells #[.string nm, .string fr, .string wt, .int .i64 o0, .int .i64 o1, .slice eA en ec, .slice pA pn pc, .bool gr, .slice aA an ac] 28)).alloc (.cells #[] 49)) := below_al (below_one _ _) _
  have hq0 : Bq ((w.alloc (.cells #[.string nm, .string fr, .string wt, .int .i64 o0, .int .i64 o1, .slice eA en ec, .slice pA pn pc, .bool gr, .slice aA an ac] 28)).alloc (.cells #[] 49)) w.heap.size (⟨nm, fr, wt, o0, o1, eA, en, ec, ee, pA, pn, pc, ps, gr, aA, an, ac⟩ : Vq) := (Bq.new w (⟨nm, fr, wt, o0, o1, eA, en, ec, ee, pA, pn, pc, ps, gr, aA, an, ac⟩ : Vq)).below (below_one _ _) (by simp)
  have hl0 : w.heap.size < ((w.alloc (.cells #[.string nm, .string fr, .string wt, .int .i64 o0, .int .i64 o1, .slice eA en ec, .slice pA pn pc, .bool gr, .slice aA an ac] 28)).alloc (.cells #[] 49)).heap.size := by simp; omega
  have Hb0 := Lib.hid hb0
  have HQ := Lib.hid hq0
  have Hl := Lib.hid hl0
  clear hb0 hq0 hl0
  dsimp only [Vq.w]
  try simp only at hp
  have Hpl := Lib.hid HX.out.plen
  go_enter Tryz.func34, Tryz.ntmps34
  go_wp2_with fail
  obtain ⟨W, hW⟩ : ∃ W : World, (w.alloc (.cells #[.string nm, .string fr, .string wt, .int .i64 o0, .int .i64 o1, .slice eA en ec, .slice pA pn pc, .bool gr, .slice aA an ac] 28)).alloc (.cells #[] 49) = W := ⟨_, rfl⟩
  rw [hW] at Hb0 HQ Hl ⊢
  clear hW
  have HX := Lib.hid (HX.out.after Hb0.out)
  have HA := Lib.hid (HA.out.after Hb0.out)
  go_loopw [5, 6] (fun v q wr => ∃ (k n' : Nat) (A' : Option Addr) (c' : Nat) (os : List Ct), k ≤ n ∧ q = .int .i64 k ∧ v = .slice A' n' c' ∧ n' ≤ k ∧ Hid (Below W.heap.size W wr) ∧ Hid (BgIn wr A' n' os) ∧ Hid (pl os = mapB (pickF ps) ((pl cs).take k) []) ∧ Hid (Bd ((k : Int) * 1000000000) (pl os)) ∧ Hid (mayBag (pl cs) = true ∨ k = 0)) (fun _ q _ => n - (intOf q).toNat)
  case atStart => exact ⟨0, 0, _, 0, [], Nat.zero_le _, rfl, rfl, Nat.zero_le _, Lib.hid (Below.refl _ _), Lib.hid ⟨rfl, Nat.zero_le _, .inl rfl, nofun⟩, Lib.hid rfl, Lib.hid nofun, Lib.hid (.inr rfl)⟩
  case round =>
    obtain ⟨k, n', A', c', os, hk, rfl, rfl, hn', hb, HO, HP, HD, HK⟩ := hrel
    by_cases hlt : k < n
    · have hgo : (k : Int) < n := by omega
      go_wp2_with fail
      refine (rmayBag_c A n c cs _ (HA.out.after hb.out)).mono ?_
      rintro e w1 ⟨rfl, hb1⟩
      replace hb := Lib.hid (below_via hb.out hb1)
      replace HO := Lib.hid (HO.out.after hb1)
      clear hb1
      cases hma : mayBag (pl cs)
      case false =>
        obtain rfl : k = 0 := by
          have h9 := HK.out
          rw [hma] at h9
          rcases h9 with h9 | h9
          · cases h9
          · exact h9
        obtain rfl : os = [] := by
          have h9 := HP.out
          have h8 : pl os = [] := h9
          exact List.map_eq_nil_iff.1 h8
        have HR : Hid (pl [] = rpickP ps (pl cs)) := Lib.hid (by unfold rpickP; rw [hma]; rfl)
        clear hma
        go_wp2_with fail
        refine (rmayBag_c A' n' c' [] _ HO.out).mono ?_
        rintro e w9 ⟨rfl, hb9⟩
        have HF9 := Lib.hid (Hb0.out.trans ((below_via hb.out hb9).mono Hb0.out.size))
        have HO9 := Lib.hid (HO.out.after hb9)
        have hmo : mayBag (pl []) = true := rfl
        rw [hmo]
        clear hb9 hmo
        go_wp2
        go_ret
        exact ⟨A', n', c', [], rfl, HF9.out, HO9.out, HR.out⟩
      case true =>
        have HM := Lib.hid hma
        clear hma
        obtain ⟨b, off, rfl⟩ := HA.out.sl.some2 (k := k) (by rw [HA.out.len]; exact hlt)
        obtain ⟨y, hy⟩ : ∃ y, cs[k]? = some y := ⟨_, List.getElem?_eq_getElem (by rw [HA.out.len]; exact hlt)⟩
        obtain ⟨hblt, c0, c1⟩ := HA.out.sl.cell2 hy
        have d0 := (hb.out.cell (p := ⟨b, off + k * 2, none⟩) hblt).trans c0
        have l0 : b < w1.heap.size := Nat.lt_of_lt_of_le hblt hb.out.size
        have q6 := (HQ.out.below hb.out Hl.out).pick
        try simp only at q6
        have lq : w.heap.size < w1.heap.size := Nat.lt_of_lt_of_le Hl.out hb.out.size
        have HC1 := Lib.hid c1
        have HB1 := Lib.hid hblt
        have Hyr := Lib.hid ((HA.out.each y (List.mem_of_getElem? hy)).after hb.out)
        have HVr := Lib.hid (HX.out.after hb.out)
        have HN9 := Lib.hid (bd_may HM.out _ (pl_mem (List.mem_of_getElem? hy)))
        have Htk := Lib.hid (mapB_take (pickF ps) (pl cs) [] k _ (pl_at hy))
        clear c0 c1 hy hblt
        obtain ⟨⟨xA, xn, xc, xs⟩, N⟩ := y
        try simp only at d0
        have HC : Hid (Below w1.heap.size w1 w1) := Lib.hid (Below.refl _ _)
        have HS : Hid (∀ w' : World, Below w1.heap.size w1 w' → w'.cell? ⟨b, off + k * 2, none⟩ = some (.slice xA xn xc) ∧ w'.cell? ⟨w.heap.size, 6, none⟩ = some (.slice pA pn pc)) := Lib.hid fun w' h => ⟨(h.cell l0).trans d0, (h.cell lq).trans q6⟩
        go_wp2_with fail
        go_region_held3 (fun w' => w'.cell? ⟨b, off + k * 2, none⟩ = some (.slice xA xn xc) ∧ w'.cell? ⟨w.heap.size, 6, none⟩ = some (.slice pA pn pc)) (first | with_reducible exact HS.out _ HC.out | with_reducible exact HS.out _ HC.out.drew | go_keep)
          (first
            | (go_at_call 53
               refine (rpick4_c xA pA xn xc pn pc xs ps _ Hyr.out.hd.len Hyr.out.hd.max (Hyr.out.hd.sl.after (by first | with_reducible exact HC.out | with_reducible exact HC.out.drew)) Hpl.out (by omega) (HVr.out.psl.after (by first | with_reducible exact HC.out | with_reducible exact HC.out.drew))).mono ?_
               rintro en wx ⟨h9, ok, rfl, hbx, hIn9, hok9, hrm9⟩
               replace HC : Hid (Below w1.heap.size w1 wx) := Lib.hid (by first | exact below_via HC.out hbx | exact below_via HC.out (below_via (Below.refl _ _).drew hbx))
               have HI9 := Lib.hid hIn9
               have HK9 := Lib.hid hok9
               have HR9 := Lib.hid hrm9
               dsimp only [Hd.v]
               clear hbx hIn9 hok9 hrm9))
        all_goals
          have Hbx := Lib.hid (hb.out.trans (HC.out.mono hb.out.size))
          have HOx := Lib.hid (HO.out.after HC.out)
          clear d0 q6
          obtain ⟨hA9, hn9, hc9, hxs9⟩ := h9
          have hok := HK9.out
          unfold pickOk at hok
          have htk := Htk.out
          try simp only at htk
          cases hpr : pickR xs ps with
          | none =>
            rw [hpr] at hok
            obtain ⟨rfl, _⟩ := hok
            have HP2 : Hid (pl os = mapB (pickF ps) ((pl cs).take (k + 1)) []) := Lib.hid (by
              rw [htk, HP.out]
              unfold pickF
              rw [hpr]
              rfl)
            have HD2 : Hid (Bd (((k + 1 : Nat) : Int) * 1000000000) (pl os)) := Lib.hid fun z hz => by have := HD.out z hz; omega
            clear hpr htk
            go_wp2
            go_roundw
            case rel => exact ⟨k + 1, n', A', c', os, by omega, by go_num, rfl, by omega, Hbx, HOx, HP2, HD2, Lib.hid (.inl HM.out)⟩
            case measure => simp [intOf]; omega
          | some l =>
            rw [hpr] at hok
            obtain ⟨rfl, hl9⟩ := hok
            have hlen := HI9.out.len
            have HL9 := Lib.hid hl9
            simp only at hlen hl9
            subst hl9
            by_cases h40 : hn9 ≤ 40
            · have hF : Hid (mapB (pickF ps) ((pl cs).take (k + 1)) [] = addB (pl os) hxs9 N) := Lib.hid (by
                rw [htk, ← HP.out]
                unfold pickF
                rw [hpr]
                dsimp only
                rw [if_pos (by omega)]
                show addB (pl os) hxs9 (1 * N) = _
                rw [Int.one_mul])
              have HCt : Hid (Ct.In _ ⟨⟨hA9, hn9, hc9, hxs9⟩, N⟩) := Lib.hid ⟨HI9.out, fun v hv => Hyr.out.sz v (pick_mem hpr v hv), fun v hv => Hyr.out.n64 v (pick_mem hpr v hv), Hyr.out.N64, HR9.out⟩
              have Has : Hid (Asc (pl os)) := Lib.hid (by rw [HP.out]; exact (map_one (pickF ps) ((pl cs).take k)).1)
              have H64 : Hid (∀ z ∈ os, -9223372036854775808 ≤ N + z.N ∧ N + z.N ≤ 9223372036854775807) := Lib.hid fun z hz => by
                have h1 := HD.out _ (pl_mem hz)
                have h2 := HN9.out
                simp only [] at h1 h2
                omega
              have g1 := (Hbx.out.cell (p := ⟨b, off + k * 2 + 1, none⟩) HB1.out).trans HC1.out
              try simp only at g1
              have h41 : (hn9 : Int) ≤ 40 := by omega
              clear hpr htk hlen
              go_wp2_with fail
              refine (radd_c A' n' c' os ⟨hA9, hn9, hc9, hxs9⟩ N _ HOx.out HCt.out Has.out (by omega) H64.out).mono ?_
              rintro en w5 ⟨A5, n5, c5, os5, rfl, hb5, hI5, he5⟩
              have Hb5 := Lib.hid (below_via Hbx.out hb5)
              have HO5 := Lib.hid hI5
              have HP5 : Hid (pl os5 = mapB (pickF ps) ((pl cs).take (k + 1)) []) := Lib.hid (he5.trans hF.out.symm)
              have HD5 : Hid (Bd (((k + 1 : Nat) : Int) * 1000000000) (pl os5)) := Lib.hid (by
                rw [he5]
                have h1 := bd_add (pl os) hxs9 N ((k : Int) * 1000000000) 1000000000 HD.out (by omega) HN9.out.1 HN9.out.2
                rw [show ((k + 1 : Nat) : Int) * 1000000000 = (k : Int) * 1000000000 + 1000000000 by omega]
                exact h1)
              have hn5 : n5 ≤ k + 1 := by
                have h1 := len_add (pl os) hxs9 N
                rw [← he5, pl_len, pl_len, hI5.len, HOx.out.len] at h1
                omega
              clear hb5 hI5 he5 g1
              go_wp2
              go_roundw
              case rel => exact ⟨k + 1, n5, A5, c5, os5, by omega, by go_num, rfl, hn5, Hb5, HO5, HP5, HD5, Lib.hid (.inl HM.out)⟩
              case measure => simp [intOf]; omega
            · have HP2 : Hid (pl os = mapB (pickF ps) ((pl cs).take (k + 1)) []) := Lib.hid (by
                rw [htk, HP.out]
                unfold pickF
                rw [hpr]
                dsimp only
                rw [if_neg (by omega)]
                rfl)
              have HD2 : Hid (Bd (((k + 1 : Nat) : Int) * 1000000000) (pl os)) := Lib.hid fun z hz => by have := HD.out z hz; omega
              have h41 : ¬ (hn9 : Int) ≤ 40 := by omega
              clear hpr htk hlen
              go_wp2
              go_roundw
              case rel => exact ⟨k + 1, n', A', c', os, by omega, by go_num, rfl, by omega, Hbx, HOx, HP2, HD2, Lib.hid (.inl HM.out)⟩
              case measure => simp [intOf]; omega
    · obtain rfl : k = n := by omega
      have HM : Hid (mayBag (pl cs) = true) := Lib.hid (by
        rcases HK.out with h9 | h9
        · exact h9
        · have h8 := HA.out.len
          rw [h9] at h8
          rw [List.eq_nil_of_length_eq_zero h8]
          rfl)
      replace HP : Hid (pl os = pickB ps (pl cs)) := Lib.hid (by
        have := HP.out
        rw [List.take_of_length_le (by rw [pl_len, HA.out.len]; exact Nat.le_refl _)] at this
        exact this)
      go_wp2_with fail
      refine (rmayBag_c A' n' c' os _ HO.out).mono ?_
      rintro e w9 ⟨rfl, hb9⟩
      have HF9 := Lib.hid (Hb0.out.trans ((below_via hb.out hb9).mono Hb0.out.size))
      have HO9 := Lib.hid (HO.out.after hb9)
      clear hb9
      cases hmo : mayBag (pl os)
      case false =>
        have HR : Hid (pl [] = rpickP ps (pl cs)) := Lib.hid (by
          unfold rpickP
          rw [← HP.out, hmo, Bool.and_false]
          rfl)
        clear hmo
        go_wp2
        go_ret
        exact ⟨none, 0, 0, [], rfl, HF9.out, bgIn_nil _, HR.out⟩
      case true =>
        have HR : Hid (pl os = rpickP ps (pl cs)) := Lib.hid (by
          unfold rpickP
          rw [← HP.out, hmo, HM.out]
          rfl)
        clear hmo
        go_wp2
        go_ret
        exact ⟨A', n', c', os, rfl, HF9.out, HO9.out, HR.out⟩
end Go.Proofs.YtldaoepemofhlaaGreatDoor

namespace Go.Proofs.YtldaoepemofhlaaGreatDoor
open Go Go.RowKit
set_option maxRecDepth 100000
attribute [local go_sem ↓] Go.wp_at_zero Go.wp_at_succ

def hiT (n : Int) : Int := n.tdiv 4294967296
def loT (n : Int) : Int := n.tmod 4294967296
theorem hilo (a : Int) : a = hiT a * 4294967296 + loT a ∧ -4294967296 < loT a ∧ loT a < 4294967296 := by
  have h1 := Int.mul_tdiv_add_tmod a 4294967296
  have h2 := Int.lt_tmod_of_pos a (show (0 : Int) < 4294967296 by decide)
  have h3 := Int.tmod_lt_of_pos a (show (0 : Int) < 4294967296 by decide)
  unfold hiT loT
  omega
theorem sumF_hilo (i : Int) : ∀ b : Bg, sumF id i b = sumF hiT i b * 4294967296 + sumF loT i b
  | [] => rfl
  | x :: b => by
    rw [sumF, sumF, sumF, sumF_hilo i b]
    split
    · have h1 := (hilo (atR x.1 i).n).1
      have h2 : id (atR x.1 i).n * x.2 = hiT (atR x.1 i).n * x.2 * 4294967296 + loT (atR x.1 i).n * x.2 := by
        show (atR x.1 i).n * x.2 = _
        rw [Int.mul_right_comm, ← Int.add_mul]
        congr 1
      rw [h2, Int.add_mul]
      omega
    · omega
theorem GOk.takeS {b : Bg} (h : GOk b) (k : Nat) : GOk (b.take k) := ⟨fun x hx => h.1 x (List.mem_of_mem_take hx), (cntB_take h k).2⟩
theorem hilo_bd {b : Bg} {i : Int} (hG : GOk b) (h : ∀ x ∈ b, -9223372036854775808 ≤ (atR x.1 i).n ∧ (atR x.1 i).n ≤ 9223372036854775807) :
    (-214748364800000 ≤ sumF hiT i b ∧ sumF hiT i b ≤ 214748364800000) ∧ (-429496729600000 ≤ sumF loT i b ∧ sumF loT i b ≤ 429496729600000) := by
  have h1 := sumF_bd (f := hiT) (P := 2147483648) (i := i) (by decide) hG.1 (fun x hx => by have := hilo (atR x.1 i).n; have := h x hx; omega)
  have h2 := sumF_bd (f := loT) (P := 4294967296) (i := i) (by decide) hG.1 (fun x hx => by have := hilo (atR x.1 i).n; omega)
  have h3 := hG.2
  have h4 := cntB_nonneg hG.1
  omega
theorem wrap_fit {n : Int} (h : -9223372036854775808 ≤ n ∧ n ≤ 9223372036854775807) : wrap64 n = n := by unfold wrap64; omega
/-- One row more, as it is added. -/
theorem wrap_more {a f N P : Int} (h0 : 0 ≤ N) (h1 : N ≤ 100000) (hP : 0 ≤ P ∧ P ≤ 4294967296) (hf : -P ≤ f ∧ f ≤ P) (h : -500000000000000 ≤ a ∧ a ≤ 500000000000000) : wrap64 (a + wrap64 (f * N)) = a + f * N := by
  obtain ⟨h2, h3⟩ := mulg_le hf h0
  have h4 : P * N ≤ 4294967296 * 100000 := Int.mul_le_mul hP.2 h1 h0 (by decide)
  rw [wrap_fit (n := f * N) (by omega), wrap_fit (by omega)]
/-- The sum by its parts. -/
theorem aggR_hilo {i : Int} {b : Bg} {h l : Int} (ha : anyI i b = true) (hs : sumF id i b = h * 4294967296 + l) (h0 : 0 ≤ l) (h1 : l < 4294967296) :
    (h < -2147483648 → aggR 1 i b = (nl, 110)) ∧ (2147483647 < h → aggR 1 i b = (nl, 110)) ∧ (-2147483648 ≤ h → h ≤ 2147483647 → aggR 1 i b = (iv (h * 4294967296 + l), 0)) := by
  unfold aggR
  rw [if_neg (by decide), if_pos rfl, if_pos ha, hs]
  refine ⟨fun h2 => if_neg (by omega), fun h2 => if_neg (by omega), fun h2 h3 => if_pos (by omega)⟩
set_option maxHeartbeats 2000000 in
theorem rsum_c (A : Option Addr) (n c : Nat) (cs : List Ct) (col : Int) (w : World) (hB : BgIn w A n cs) (hG : GOk (pl cs)) (hn : n ≤ 100000) :
    Calls Tryz.prog 37 #[.int .i64 col, .slice A n c] w fun e w' => e = .returned (.tuple #[(aggR 1 col (pl cs)).1.v, .int .i64 (aggR 1 col (pl cs)).2]) ∧ Below w.heap.size w w' := by
  have HB := Lib.hid hB
  have HG := Lib.hid hG
  clear hB hG
  have HN : Hid (∀ x ∈ pl cs, -9223372036854775808 ≤ (atR x.1 col).n ∧ (atR x.1 col).n ≤ 9223372036854775807) := Lib.hid fun x hx => by
    obtain ⟨z, hz, rfl⟩ := List.mem_map.1 hx
    exact (okv_at (fun v hv => ⟨(HB.out.each z hz).sz v hv, (HB.out.each z hz).n64 v hv⟩) col).2
  obtain ⟨R, hR⟩ : ∃ R, aggR 1 col (pl cs) = R := ⟨_, rfl⟩
  have HR := Lib.hid hR
  rw [hR]
  clear hR
  obtain ⟨V, hV⟩ : ∃ V, w.alloc (.cells #[.int .i64 0, .int .i64 0, .string ⟨#[]⟩] 39) = V := ⟨_, rfl⟩
  have HV0 : Hid (Bx V w.heap.size nl) := Lib.hid (by rw [← hV]; exact Bx.new w nl)
  have HVb : Hid (Below w.heap.size w V) := Lib.hid (by rw [← hV]; exact below_one _ _)
  go_enter Tryz.func37, Tryz.ntmps37
  go_wp2_with fail
  clear hV
  go_loopw [6, 7, 8, 9] (fun h l a q wr => ∃ k : Nat, k ≤ n ∧ h = .int .i64 (sumF hiT col ((pl cs).take k)) ∧ l = .int .i64 (sumF loT col ((pl cs).take k)) ∧ a = .bool (anyI col ((pl cs).take k)) ∧ q = .int .i64 k ∧ Hid (Below V.heap.size V wr)) (fun _ _ _ q _ => n - (intOf q).toNat)
  case atStart => exact ⟨0, Nat.zero_le _, rfl, rfl, rfl, rfl, Lib.hid (Below.refl _ _)⟩
  case round =>
    obtain ⟨k, hk, rfl, rfl, rfl, rfl, hb⟩ := hrel
    obtain ⟨⟨hb1, hb2⟩, hb3, hb4⟩ := hilo_bd (HG.out.takeS k) (fun x hx => HN.out x (List.mem_of_mem_take hx))
    by_cases hlt : k < n
    · have HBr := (HB.out.after HVb.out).after hb.out
      obtain ⟨bb, off, rfl⟩ := HBr.sl.some2 (k := k) (by rw [HBr.len]; exact hlt)
      obtain ⟨x, hx⟩ : ∃ x, cs[k]? = some x := ⟨_, List.getElem?_eq_getElem (by rw [HBr.len]; exact hlt)⟩
      obtain ⟨l0, d0, d1⟩ := HBr.sl.cell2 hx
      have Hxr := Lib.hid (HBr.each x (List.mem_of_getElem? hx))
      have hx1 := HN.out _ (List.mem_of_getElem? (pl_at hx))
      have hx2 := HG.out.n (pl_at hx)
      have M1 := Lib.hid (sumF_more (f := hiT) (i := col) (pl_at hx))
      have M2 := Lib.hid (sumF_more (f := loT) (i := col) (pl_at hx))
      have M3 := Lib.hid (anyI_more (i := col) (pl_at hx))
      have HbM := Lib.hid (hilo_bd (i := col) (HG.out.takeS (k + 1)) (fun x hx => HN.out x (List.mem_of_mem_take hx)))
      clear hx HBr
      obtain ⟨⟨xA, xn, xc, xs⟩, N⟩ := x
      have hgo : (k : Int) < n := by omega
      try simp only at d0 d1 hx1 hx2
      go_wp2_with fail
      refine (rat_c xA xn xc xs col _ Hxr.out.hd.len Hxr.out.hd.sl).mono ?_
      rintro e w7 ⟨rfl, hb7⟩
      have m1 := M1.out
      have m2 := M2.out
      have m3 := M3.out
      try simp only at m1 m2 m3
      obtain ⟨y, hy⟩ : ∃ y, atR xs col = y := ⟨_, rfl⟩
      rw [hy] at m1 m2 m3 hx1 ⊢
      have HC1 := Lib.hid ((HB.out.after HVb.out).after (below_via hb.out hb7))
      have e1 : w7.cell? ⟨bb, off + k * 2 + 1, none⟩ = some (.int .i64 N) := (hb7.cell (by omega)).trans d1
      have l7 : bb < w7.heap.size := Nat.lt_of_lt_of_le l0 hb7.size
      have Hb7 : Hid (Below V.heap.size V (w7.alloc (.cells #[.int .i64 y.k, .int .i64 y.n, .string y.s] 39))) := Lib.hid (below_via (below_via hb.out hb7) (below_one _ _))
      clear hy hb7 d0 d1 l0
      by_cases hy2 : y.k = 2
      · have k2 : (y.k != 2) = false := by simp [hy2]
        rw [if_pos hy2] at m1 m2
        rw [decide_eq_true hy2, Bool.or_true] at m3
        have Hm1 := Lib.hid m1
        have Hm2 := Lib.hid m2
        have Hm3 := Lib.hid m3
        clear hy2 m1 m2 m3
        have W1 : wrap64 (sumF hiT col ((pl cs).take k) + wrap64 (y.n.tdiv 4294967296 * N)) = sumF hiT col ((pl cs).take k) + hiT y.n * N := wrap_more (f := hiT y.n) (P := 2147483648) hx2.1 hx2.2 (by decide) (by have := hilo y.n; omega) (by omega)
        have W2 : wrap64 (sumF loT col ((pl cs).take k) + wrap64 (y.n.tmod 4294967296 * N)) = sumF loT col ((pl cs).take k) + loT y.n * N := wrap_more (f := loT y.n) (P := 4294967296) hx2.1 hx2.2 (by decide) (by have := hilo y.n; omega) (by omega)
        have HW1 := Lib.hid (W1.trans Hm1.out.symm)
        have HW2 := Lib.hid (W2.trans Hm2.out.symm)
        clear W1 W2
        go_wp2_with fail
        go_roundw
        case rel => exact ⟨k + 1, by omega, by rw [HW1.out], by rw [HW2.out], by rw [Hm3.out], by go_num, Hb7⟩
        case measure => simp [intOf]; omega
      · have k2 : (y.k != 2) = true := by simp [hy2]
        rw [if_neg hy2, Int.add_zero] at m1 m2
        rw [decide_eq_false hy2, Bool.or_false] at m3
        have Hm1 := Lib.hid m1
        have Hm2 := Lib.hid m2
        have Hm3 := Lib.hid m3
        clear hy2 m1 m2 m3
        go_wp2_with fail
        go_roundw
        case rel => exact ⟨k + 1, by omega, by rw [Hm1.out], by rw [Hm2.out], by rw [Hm3.out], by go_num, Hb7⟩
        case measure => simp [intOf]; omega
    · obtain rfl : k = n := by omega
      have htk : (pl cs).take k = pl cs := List.take_of_length_le (by rw [pl_len, HB.out.len]; exact Nat.le_refl _)
      rw [htk] at hb1 hb2 hb3 hb4 ⊢
      have hs := sumF_hilo col (pl cs)
      obtain ⟨H, hH⟩ : ∃ H, sumF hiT col (pl cs) = H := ⟨_, rfl⟩
      obtain ⟨L, hL⟩ : ∃ L, sumF loT col (pl cs) = L := ⟨_, rfl⟩
      rw [hH, hL] at hs
      rw [hH] at hb1 hb2
      rw [hL] at hb3 hb4
      rw [hH, hL]
      have hZ := HV0.out.after hb.out
      have HZ := Lib.hid hZ
      have HE : Hid (Below w.heap.size w wr) := Lib.hid (below_via HVb.out hb.out)
      have z0 := hZ.cell0
      have z1 := hZ.cell1
      have z2 := hZ.cell2
      have y0 := hZ.frozen 0
      have y1 := hZ.frozen 1
      have y2 := hZ.frozen 2
      have lz := hZ.lt
      clear htk hH hL hZ
      cases hany : anyI col (pl cs)
      · have hRe : R = (nl, 0) := by
          rw [← HR.out]
          unfold aggR
          rw [if_neg (by decide), if_pos rfl, hany]
          rfl
        subst hRe
        clear hany hs
        go_wp2_with fail
        exact ret_valE (a := nl) Tryz.results37 rfl rfl (put3_box HZ.out nl) rfl ⟨rfl, put3s_below HE.out (Nat.le_refl _) _ _ _⟩
      · obtain ⟨g1, g2, g3⟩ := hilo L
        unfold hiT loT at g1
        unfold loT at g2 g3
        obtain ⟨q, hq⟩ : ∃ q, L.tdiv 4294967296 = q := ⟨_, rfl⟩
        obtain ⟨r, hr⟩ : ∃ r, L.tmod 4294967296 = r := ⟨_, rfl⟩
        rw [hq, hr] at g1
        rw [hr] at g2 g3
        have hb5 : -200000 ≤ q ∧ q ≤ 200000 := by omega
        have HX : Hid (∀ h l : Int, h * 4294967296 + l = H * 4294967296 + L → 0 ≤ l → l < 4294967296 → (h < -2147483648 → R = (nl, 110)) ∧ (2147483647 < h → R = (nl, 110)) ∧ (-2147483648 ≤ h → h ≤ 2147483647 → R = (iv (h * 4294967296 + l), 0))) := Lib.hid fun h l e e0 e1 => by
          rw [← HR.out]
          exact aggR_hilo hany (by rw [hs, e]) e0 e1
        clear hany hs
        by_cases hneg : r < 0
        · have HXr := Lib.hid (HX.out (H + q - 1) (r + 4294967296) (by omega) (by omega) (by omega))
          have w1 : wrap64 (H + q) = H + q := wrap_fit (by omega)
          have w2 : wrap64 (H + q - 1) = H + q - 1 := wrap_fit (by omega)
          have w3 : wrap64 (r + 4294967296) = r + 4294967296 := wrap_fit (by omega)
          clear g1
          by_cases c1 : H + q - 1 < -2147483648
          · have hRe := HXr.out.1 c1
            subst hRe
            have d1 : decide (H + q - 1 < -2147483648) = true := decide_eq_true c1
            go_wp2_with fail
            exact ret_valE (a := nl) Tryz.results37 rfl rfl (put3_box HZ.out nl) rfl ⟨rfl, put3s_below HE.out (Nat.le_refl _) _ _ _⟩
          · have d1 : decide (H + q - 1 < -2147483648) = false := decide_eq_false c1
            by_cases c2 : 2147483647 < H + q - 1
            · have hRe := HXr.out.2.1 c2
              subst hRe
              have d2 : decide (2147483647 < H + q - 1) = true := decide_eq_true c2
              go_wp2_with fail
              exact ret_valE (a := nl) Tryz.results37 rfl rfl (put3_box HZ.out nl) rfl ⟨rfl, put3s_below HE.out (Nat.le_refl _) _ _ _⟩
            · have hRe := HXr.out.2.2 (by omega) (by omega)
              subst hRe
              have d2 : decide (2147483647 < H + q - 1) = false := decide_eq_false c2
              go_wp2_with fail
              refine (rintG_c _ _).mono ?_
              rintro e w9 ⟨rfl, hb9⟩
              have HZ9 := Lib.hid (HZ.out.after hb9)
              have HE9 := Lib.hid (below_via HE.out hb9)
              clear z0 z1 z2 y0 y1 y2 lz hb9
              have z0 := HZ9.out.cell0
              have z1 := HZ9.out.cell1
              have z2 := HZ9.out.cell2
              have y0 := HZ9.out.frozen 0
              have y1 := HZ9.out.frozen 1
              have y2 := HZ9.out.frozen 2
              have lz := HZ9.out.lt
              go_wp2_with fail
              exact ret_valE (a := iv ((H + q - 1) * 4294967296 + (r + 4294967296))) Tryz.results37 rfl rfl (put3_box HZ9.out _) rfl ⟨rfl, put3s_below HE9.out (Nat.le_refl _) _ _ _⟩
        · have hneg2 : 0 ≤ r := by omega
          have HXr := Lib.hid (HX.out (H + q) r (by omega) (by omega) (by omega))
          have w1 : wrap64 (H + q) = H + q := wrap_fit (by omega)
          clear g1
          by_cases c1 : H + q < -2147483648
          · have hRe := HXr.out.1 c1
            subst hRe
            have d1 : decide (H + q < -2147483648) = true := decide_eq_true c1
            go_wp2_with fail
            exact ret_valE (a := nl) Tryz.results37 rfl rfl (put3_box HZ.out nl) rfl ⟨rfl, put3s_below HE.out (Nat.le_refl _) _ _ _⟩
          · have d1 : decide (H + q < -2147483648) = false := decide_eq_false c1
            by_cases c2 : 2147483647 < H + q
            · have hRe := HXr.out.2.1 c2
              subst hRe
              have d2 : decide (2147483647 < H + q) = true := decide_eq_true c2
              go_wp2_with fail
              exact ret_valE (a := nl) Tryz.results37 rfl rfl (put3_box HZ.out nl) rfl ⟨rfl, put3s_below HE.out (Nat.le_refl _) _ _ _⟩
            · have hRe := HXr.out.2.2 (by omega) (by omega)
              subst hRe
              have d2 : decide (2147483647 < H + q) = false := decide_eq_false c2
              go_wp2_with fail
              refine (rintG_c _ _).mono ?_
              rintro e w9 ⟨rfl, hb9⟩
              have HZ9 := Lib.hid (HZ.out.after hb9)
              have HE9 := Lib.hid (below_via HE.out hb9)
              clear z0 z1 z2 y0 y1 y2 lz hb9
              have z0 := HZ9.out.cell0
              have z1 := HZ9.out.cell1
              have z2 := HZ9.out.cell2
              have y0 := HZ9.out.frozen 0
              have y1 := HZ9.out.frozen 1
              have y2 := HZ9.out.frozen 2
              have lz := HZ9.out.lt
              go_wp2_with fail
              exact ret_valE (a := iv ((H + q) * 4294967296 + (r))) Tryz.results37 rfl rfl (put3_box HZ9.out _) rfl ⟨rfl, put3s_below HE9.out (Nat.le_refl _) _ _ _⟩
end Go.Proofs.YtldaoepemofhlaaGreatDoor

namespace Go.Proofs.YtldaoepemofhlaaGreatDoor
open Go Go.RowKit
set_option maxRecDepth 100000
attribute [local go_sem ↓] Go.wp_at_zero Go.wp_at_succ

set_option maxHeartbeats 4000000 in
theorem ragg_c (A : Option Addr) (n c : Nat) (cs : List Ct) (fn col : Int) (w : World) (hB : BgIn w A n cs) (hn : n ≤ 100000) :
    Calls Tryz.prog 13 #[.agg #[.int .i64 fn, .int .i64 col], .slice A n c] w fun e w' => e = .returned (.tuple #[(aggF fn col (pl cs)).1.v, .int .i64 (aggF fn col (pl cs)).2]) ∧ Below w.heap.size w w' := by
  have HB := Lib.hid hB
  clear hB
  obtain ⟨R, hR⟩ : ∃ R, aggF fn col (pl cs) = R := ⟨_, rfl⟩
  have HR := Lib.hid hR
  rw [hR]
  clear hR
  obtain ⟨V, hV⟩ : ∃ V, (w.alloc (.cells #[.int .i64 fn, .int .i64 col] 32)).alloc (.cells #[.int .i64 0, .int .i64 0, .string ⟨#[]⟩] 39) = V := ⟨_, rfl⟩
  have HV0 : Hid (Bf V w.heap.size #[.int .i64 fn, .int .i64 col] 32) := Lib.hid (by rw [← hV]; exact (Bf.new w _ _).over _)
  have HV1 : Hid (Bx V (w.heap.size + 1) nl) := Lib.hid (by rw [← hV]; have h9 := Bx.new (w.alloc (.cells #[.int .i64 fn, .int .i64 col] 32)) nl; rw [show (w.alloc (.cells #[.int .i64 fn, .int .i64 col] 32)).heap.size = w.heap.size + 1 by simp] at h9; exact h9)
  have HVb : Hid (Below w.heap.size w V) := Lib.hid (by rw [← hV]; exact below_two _ _ _)
  go_enter Tryz.func13, Tryz.ntmps13
  go_wp2_with fail
  clear hV
  refine (rright_c A n c cs V (HB.out.after HVb.out) hn).mono ?_
  rintro e W ⟨rfl, hb1⟩
  obtain ⟨r, hr⟩ : ∃ r, refR (pl cs) = r := ⟨_, rfl⟩
  have Hr := Lib.hid hr
  rw [hr]
  have HB1 := Lib.hid hb1
  have HW0 := Lib.hid (HV0.out.after hb1 HV0.out.lt)
  have HW1 := Lib.hid (HV1.out.after hb1)
  have HWb := Lib.hid (below_via HVb.out hb1)
  clear hb1 hr
  have z0 := HW1.out.cell0
  have z1 := HW1.out.cell1
  have z2 := HW1.out.cell2
  have y0 := HW1.out.frozen 0
  have y1 := HW1.out.frozen 1
  have y2 := HW1.out.frozen 2
  have lz := HW1.out.lt
  by_cases h0 : r = 0
  · have h1 : (r != 0) = false := by simp [h0]
    have H0 : Hid (refR (pl cs) = 0) := Lib.hid (by rw [Hr.out]; exact h0)
    have HRe : Hid (aggR fn col (pl cs) = R) := Lib.hid (by rw [← HR.out]; unfold aggF; rw [if_pos H0.out])
    have HGk := Lib.hid (refR_ok H0.out).2
    clear h0
    have a0 := HW0.out.cell 0
    have a1 := HW0.out.cell 1
    have l6 := HW0.out.lt
    by_cases f0 : fn = 0
    · subst f0
      go_wp2_with fail
      go_loopw [7, 8] (fun v q wr => ∃ k : Nat, k ≤ n ∧ q = .int .i64 k ∧ v = .int .i64 (cntB ((pl cs).take k)) ∧ W = wr) (fun _ q _ => n - (intOf q).toNat)
      case atStart => exact ⟨0, Nat.zero_le _, rfl, rfl, rfl⟩
      case round =>
        obtain ⟨k, hk, rfl, rfl, rfl⟩ := hrel
        have hc := cntB_take HGk.out k
        by_cases hlt : k < n
        · have HBr := (HB.out.after HVb.out).after HB1.out
          obtain ⟨b, off, rfl⟩ := HBr.sl.some2 (k := k) (by rw [HBr.len]; exact hlt)
          obtain ⟨x, hx⟩ : ∃ x, cs[k]? = some x := ⟨_, List.getElem?_eq_getElem (by rw [HBr.len]; exact hlt)⟩
          obtain ⟨l0, d0, d1⟩ := HBr.sl.cell2 hx
          have hmore : cntB ((pl cs).take (k + 1)) = cntB ((pl cs).take k) + x.N := cntB_more (pl_at hx)
          have Hmore := Lib.hid hmore
          have h5 := HGk.out.n (pl_at hx)
          clear hx HBr hmore
          obtain ⟨⟨xA, xn, xc, xs⟩, N⟩ := x
          have hgo : (k : Int) < n := by omega
          try simp only at d0 d1 h5
          obtain ⟨T, hT⟩ : ∃ T, cntB ((pl cs).take k) = T := ⟨_, rfl⟩
          rw [hT] at hc ⊢
          have hw : wrap64 (T + N) = T + N := by unfold wrap64; omega
          have HT1 : Hid (cntB ((pl cs).take (k + 1)) = T + N) := Lib.hid (by have := Hmore.out; rw [hT] at this; exact this)
          clear hT hc h5 Hmore
          go_wp2_with fail
          go_roundw
          case rel => exact ⟨k + 1, by omega, by go_num, by rw [HT1.out, hw], trivial⟩
          case measure => simp [intOf]; omega
        · obtain rfl : k = n := by omega
          have hRe : R = (iv (cntB (pl cs)), 0) := HRe.out.symm
          rw [show (pl cs).take k = pl cs from List.take_of_length_le (by rw [pl_len, HB.out.len]; exact Nat.le_refl _)]
          subst hRe
          clear hc
          go_wp2_with fail
          refine (rintG_c _ _).mono ?_
          rintro e w9 ⟨rfl, hb9⟩
          have HZ9 := Lib.hid (HW1.out.after hb9)
          have HE9 := Lib.hid (below_via HWb.out hb9)
          clear z0 z1 z2 y0 y1 y2 lz hb9
          have z0 := HZ9.out.cell0
          have z1 := HZ9.out.cell1
          have z2 := HZ9.out.cell2
          have y0 := HZ9.out.frozen 0
          have y1 := HZ9.out.frozen 1
          have y2 := HZ9.out.frozen 2
          have lz := HZ9.out.lt
          go_wp2_with fail
          exact ret_valE (a := iv (cntB (pl cs))) Tryz.results13 rfl rfl (put3_box HZ9.out _) rfl ⟨rfl, put3s_below HE9.out (Nat.le_succ _) _ _ _⟩
    · have k0 : (fn == 0) = false := by simp [f0]
      by_cases f1 : fn = 1
      · subst f1
        go_wp2_with fail
        refine (rsum_c A n c cs col W ((HB.out.after HVb.out).after HB1.out) HGk.out hn).mono ?_
        rw [HRe.out]
        rintro e w9 ⟨rfl, hb9⟩
        have HZ9 := Lib.hid (HW1.out.after hb9)
        have HE9 := Lib.hid (below_via HWb.out hb9)
        clear z0 z1 z2 y0 y1 y2 lz hb9
        have z0 := HZ9.out.cell0
        have z1 := HZ9.out.cell1
        have z2 := HZ9.out.cell2
        have y0 := HZ9.out.frozen 0
        have y1 := HZ9.out.frozen 1
        have y2 := HZ9.out.frozen 2
        have lz := HZ9.out.lt
        go_wp2_with fail
        exact ret_valE (a := R.1) Tryz.results13 rfl rfl (put3_box HZ9.out R.1) rfl ⟨rfl, put3s_below HE9.out (Nat.le_succ _) _ _ _⟩
      · have k1 : (fn == 1) = false := by simp [f1]
        by_cases f2 : fn = 2
        · subst f2
          clear f0 f1
          go_wp2_with fail
          obtain ⟨U, hU⟩ : ∃ U, W.alloc (.cells #[.int .i64 0, .int .i64 0, .string ⟨#[]⟩] 39) = U := ⟨_, rfl⟩
          obtain ⟨bb, hbb⟩ : ∃ bb, W.heap.size = bb := ⟨_, rfl⟩
          have HbU : Hid (Below bb W U) := Lib.hid (by rw [← hU, ← hbb]; exact below_one _ _)
          have HzU : Hid (Bx U bb nl) := Lib.hid (by rw [← hU, ← hbb]; exact Bx.new W nl)
          have Hlt : Hid (w.heap.size + 1 < bb) := Lib.hid (by rw [← hbb]; exact HW1.out.lt)
          rw [hU, hbb]
          have Hbb := Lib.hid hbb
          clear hU hbb z0 z1 z2 y0 y1 y2 lz a0 a1 l6
          go_loopw [10] (fun q wr => ∃ k : Nat, k ≤ n ∧ q = .int .i64 k ∧ Hid (Below bb W wr) ∧ Hid (Bx wr bb (extB (-1) col ((pl cs).take k)))) (fun q _ => n - (intOf q).toNat)
          case atStart => exact ⟨0, Nat.zero_le _, rfl, HbU, HzU⟩
          case round =>
            obtain ⟨k, hk, rfl, hb, hz⟩ := hrel
            have HbW : Hid (Below W.heap.size W wr) := Lib.hid (by rw [Hbb.out]; exact hb.out)
            have HA0 := Lib.hid (HW0.out.after HbW.out HW0.out.lt)
            by_cases hlt : k < n
            · have HBr := ((HB.out.after HVb.out).after HB1.out).after HbW.out
              obtain ⟨b, off, rfl⟩ := HBr.sl.some2 (k := k) (by rw [HBr.len]; exact hlt)
              obtain ⟨x, hx⟩ : ∃ x, cs[k]? = some x := ⟨_, List.getElem?_eq_getElem (by rw [HBr.len]; exact hlt)⟩
              obtain ⟨l0, d0, _⟩ := HBr.sl.cell2 hx
              have Hxr := Lib.hid (HBr.each x (List.mem_of_getElem? hx))
              have Hmore := Lib.hid (extB_more (t := -1) (i := col) (pl_at hx))
              clear hx HBr
              obtain ⟨⟨xA, xn, xc, xs⟩, N⟩ := x
              have hgo : (k : Int) < n := by omega
              have a0 := HA0.out.cell 0
              have a1 := HA0.out.cell 1
              have l6 := HA0.out.lt
              try simp only at d0
              have HS : Hid (∀ w' : World, Below wr.heap.size wr w' → w'.cell? ⟨b, off + k * 2, none⟩ = some (.slice xA xn xc) ∧ w'.cell? ⟨w.heap.size, 1, none⟩ = some (.int .i64 col)) := Lib.hid fun w' h => ⟨(h.cell l0).trans d0, (h.cell l6).trans a1⟩
              have HC : Hid (Below wr.heap.size wr wr) := Lib.hid (Below.refl _ _)
              obtain ⟨y, hy⟩ : ∃ y, atR xs col = y := ⟨_, rfl⟩
              have Hy := Lib.hid hy
              clear hy
              go_upto_region 17 with fail
              go_cut [11] (fun s9 wx => ∃ yb : Nat, s9 = .pointer (some ⟨yb, 0, none⟩) ∧ Hid (Below wr.heap.size wr wx) ∧ Hid (Bx wx yb y))
              case first =>
                go_region_held3 (fun w' => w'.cell? ⟨b, off + k * 2, none⟩ = some (.slice xA xn xc) ∧ w'.cell? ⟨w.heap.size, 1, none⟩ = some (.int .i64 col)) (first | with_reducible exact HS.out _ HC.out | with_reducible exact HS.out _ HC.out.drew | (with_reducible refine HS.out _ ?_; repeat' first | with_reducible refine Below.drew ?_ | with_reducible refine below_al ?_ _ | with_reducible refine Below.setCell ?_ ?_ _ | with_reducible exact HC.out | with_reducible exact HC.out.drew | (dsimp only; omega)) | go_keep)
                  (first
                    | (go_at_call 18
                       with_reducible refine (rat_c xA xn xc xs col _ Hxr.out.hd.len (Hxr.out.hd.after (by repeat' first | with_reducible refine Below.drew ?_ | with_reducible refine below_al ?_ _ | with_reducible exact HC.out)).sl).mono ?_
                       rintro en w9 ⟨rfl, hb9⟩
                       rw [Hy.out]
                       first
                         | (obtain ⟨hbx, hbw, hlx⟩ := box_afterD hb9
                            replace HC : Hid (Below wr.heap.size wr w9) := Lib.hid hbw
                            have HBx := Lib.hid hbx
                            have x0 := hbx.cell 0
                            have x1 := hbx.cell 1
                            have x2 := hbx.cell 2
                            have x3 := hbx.thaw 0
                            have x4 := hbx.thaw 1
                            have x5 := hbx.thaw 2
                            have lx := hlx
                            clear hbx hbw hlx)
                         | (obtain ⟨hbx, hbw, hlx⟩ := box_after hb9
                            replace HC : Hid (Below wr.heap.size wr w9) := Lib.hid hbw
                            have HBx := Lib.hid hbx
                            have x0 := hbx.cell 0
                            have x1 := hbx.cell 1
                            have x2 := hbx.cell 2
                            have x3 := hbx.thaw 0
                            have x4 := hbx.thaw 1
                            have x5 := hbx.thaw 2
                            have lx := hlx
                            clear hbx hbw hlx)
                         | (replace HC : Hid (Below wr.heap.size wr w9) := Lib.hid (by first | exact hb9 | exact below_via (Below.refl _ _).drew hb9))
                       clear hb9))
                all_goals
                  go_wp2
                  go_meet
                  first
                    | exact ⟨_, rfl, Lib.hid (below_al HC.out _), Lib.hid (Bx.new _ y)⟩
                    | exact ⟨_, rfl, Lib.hid (put3s_below HC.out (Nat.le_refl _) _ _ _), Lib.hid (put3_box HBx.out y)⟩
              case rest =>
                obtain ⟨yb, rfl, hbc, hyb⟩ := hcut
                have Hb9 : Hid (Below bb W wc) := Lib.hid (hb.out.trans (hbc.out.mono (Nat.le_of_lt hz.out.lt)))
                have Hz9 := hz.out.after hbc.out
                have HA9 := Lib.hid (HA0.out.after hbc.out HA0.out.lt)
                have hmore := Hmore.out
                try simp only at hmore
                obtain ⟨z, hzz⟩ : ∃ z, extB (-1) col ((pl cs).take k) = z := ⟨_, rfl⟩
                rw [hzz] at Hz9 hmore
                rw [Hy.out] at hmore
                have HM := Lib.hid hmore
                replace Hz9 := Lib.hid Hz9
                have HY9 := Lib.hid hyb.out
                clear hmore hzz
                clear a0 a1 l6 d0 l0 HS HC hb hz hbc hyb
                have a0 := HA9.out.cell 0
                have l6 := HA9.out.lt
                have v0 := HY9.out.cell0
                have v1 := HY9.out.cell1
                have v2 := HY9.out.cell2
                have lv := HY9.out.lt
                have z0 := Hz9.out.cell0
                have z1 := Hz9.out.cell1
                have z2 := Hz9.out.cell2
                have lz := Hz9.out.lt
                by_cases hy0 : y.k = 0
                · have hk1 : (y.k == 0) = true := by simp [hy0]
                  have HN : Hid (Bx wc bb (extB (-1) col ((pl cs).take (k + 1)))) := Lib.hid (by rw [HM.out]; unfold extV; rw [if_pos hy0]; exact Hz9.out)
                  clear hy0
                  go_wp2_with fail
                  go_roundw
                  case rel => exact ⟨k + 1, by omega, by go_num, Hb9, HN⟩
                  case measure => simp [intOf]; omega
                · have hk1 : (y.k == 0) = false := by simp [hy0]
                  go_wp2_with fail
                  refine (rcompare_c y z _).mono ?_
                  rintro e w8 ⟨rfl, hb8⟩
                  have Hb8 : Hid (Below bb W w8) := Lib.hid (Hb9.out.trans (hb8.mono (Nat.le_of_lt Hz9.out.lt)))
                  have Hz8 := Lib.hid (Hz9.out.after hb8)
                  have HA8 := Lib.hid (HA9.out.after hb8 HA9.out.lt)
                  have HY8 := Lib.hid (HY9.out.after hb8)
                  clear hb8 a0 l6 v0 v1 v2 lv z0 z1 z2 lz
                  have a0 := HA8.out.cell 0
                  have l6 := HA8.out.lt
                  have v0 := HY8.out.cell0
                  have v1 := HY8.out.cell1
                  have v2 := HY8.out.cell2
                  have lv := HY8.out.lt
                  have z0 := Hz8.out.cell0
                  have z1 := Hz8.out.cell1
                  have z2 := Hz8.out.cell2
                  have y0 := Hz8.out.frozen 0
                  have y1 := Hz8.out.frozen 1
                  have y2 := Hz8.out.frozen 2
                  have lz := Hz8.out.lt
                  by_cases hz0 : z.k = 0
                  · have hk2 : (z.k == 0) = true := by simp [hz0]
                    have HN : Hid (extB (-1) col ((pl cs).take (k + 1)) = y) := Lib.hid (by rw [HM.out]; unfold extV; rw [if_neg hy0, if_pos (.inl hz0)])
                    clear hy0 hz0
                    go_wp2_with fail
                    go_roundw
                    case rel => exact ⟨k + 1, by omega, by go_num, Lib.hid (put3_below Hb8.out (Nat.le_refl _) y), Lib.hid (by rw [HN.out]; exact Hz8.out.put y)⟩
                    case measure => simp [intOf]; omega
                  · have hk2 : (z.k == 0) = false := by simp [hz0]
                    by_cases hc : cmpV y z = (-1)
                    · have HN : Hid (extB (-1) col ((pl cs).take (k + 1)) = y) := Lib.hid (by rw [HM.out]; unfold extV; rw [if_neg hy0, if_pos (.inr hc)])
                      have hd : decide (cmpV y z < 0) = true := decide_eq_true (by omega)
                      clear hy0 hz0 hc
                      go_wp2_with fail
                      go_roundw
                      case rel => exact ⟨k + 1, by omega, by go_num, Lib.hid (put3_below Hb8.out (Nat.le_refl _) y), Lib.hid (by rw [HN.out]; exact Hz8.out.put y)⟩
                      case measure => simp [intOf]; omega
                    · have HN : Hid (extB (-1) col ((pl cs).take (k + 1)) = z) := Lib.hid (by rw [HM.out]; unfold extV; rw [if_neg hy0, if_neg (by rintro (h | h); exact hz0 h; exact hc h)])
                      have hd : decide (cmpV y z < 0) = false := decide_eq_false (by have := cmp_range y z; omega)
                      clear hy0 hz0 hc
                      go_wp2_with fail
                      go_roundw
                      case rel => exact ⟨k + 1, by omega, by go_num, Hb8, Lib.hid (by rw [HN.out]; exact Hz8.out)⟩
                      case measure => simp [intOf]; omega
            · obtain rfl : k = n := by omega
              have hz2 := hz.out
              rw [show (pl cs).take k = pl cs from List.take_of_length_le (by rw [pl_len, HB.out.len]; exact Nat.le_refl _)] at hz2
              obtain ⟨v1, hv1⟩ : ∃ v1, extB (-1) col (pl cs) = v1 := ⟨_, rfl⟩
              have hRe : R = (v1, 0) := by rw [← HRe.out, ← hv1]; rfl
              rw [hv1] at hz2
              subst hRe
              have Hz2 := Lib.hid hz2
              have HZ9 := Lib.hid (HW1.out.after HbW.out)
              have HE9 := Lib.hid (below_via HWb.out HbW.out)
              have g0 := hz2.cell0
              have g1 := hz2.cell1
              have g2 := hz2.cell2
              have lg := hz2.lt
              clear hz2 hv1
              have z0 := HZ9.out.cell0
              have z1 := HZ9.out.cell1
              have z2 := HZ9.out.cell2
              have y0 := HZ9.out.frozen 0
              have y1 := HZ9.out.frozen 1
              have y2 := HZ9.out.frozen 2
              have lz := HZ9.out.lt
              go_wp2_with fail
              exact ret_valE (a := v1) Tryz.results13 rfl rfl (put3_box HZ9.out v1) rfl ⟨rfl, put3s_below HE9.out (Nat.le_succ _) _ _ _⟩
        · by_cases f3 : fn = 3
          · subst f3
            clear f0 f1 f2
            go_wp2_with fail
            obtain ⟨U, hU⟩ : ∃ U, W.alloc (.cells #[.int .i64 0, .int .i64 0, .string ⟨#[]⟩] 39) = U := ⟨_, rfl⟩
            obtain ⟨bb, hbb⟩ : ∃ bb, W.heap.size = bb := ⟨_, rfl⟩
            have HbU : Hid (Below bb W U) := Lib.hid (by rw [← hU, ← hbb]; exact below_one _ _)
            have HzU : Hid (Bx U bb nl) := Lib.hid (by rw [← hU, ← hbb]; exact Bx.new W nl)
            have Hlt : Hid (w.heap.size + 1 < bb) := Lib.hid (by rw [← hbb]; exact HW1.out.lt)
            rw [hU, hbb]
            have Hbb := Lib.hid hbb
            clear hU hbb z0 z1 z2 y0 y1 y2 lz a0 a1 l6
            go_loopw [10] (fun q wr => ∃ k : Nat, k ≤ n ∧ q = .int .i64 k ∧ Hid (Below bb W wr) ∧ Hid (Bx wr bb (extB 1 col ((pl cs).take k)))) (fun q _ => n - (intOf q).toNat)
            case atStart => exact ⟨0, Nat.zero_le _, rfl, HbU, HzU⟩
            case round =>
              obtain ⟨k, hk, rfl, hb, hz⟩ := hrel
              have HbW : Hid (Below W.heap.size W wr) := Lib.hid (by rw [Hbb.out]; exact hb.out)
              have HA0 := Lib.hid (HW0.out.after HbW.out HW0.out.lt)
              by_cases hlt : k < n
              · have HBr := ((HB.out.after HVb.out).after HB1.out).after HbW.out
                obtain ⟨b, off, rfl⟩ := HBr.sl.some2 (k := k) (by rw [HBr.len]; exact hlt)
                obtain ⟨x, hx⟩ : ∃ x, cs[k]? = some x := ⟨_, List.getElem?_eq_getElem (by rw [HBr.len]; exact hlt)⟩
                obtain ⟨l0, d0, _⟩ := HBr.sl.cell2 hx
                have Hxr := Lib.hid (HBr.each x (List.mem_of_getElem? hx))
                have Hmore := Lib.hid (extB_more (t := 1) (i := col) (pl_at hx))
                clear hx HBr
                obtain ⟨⟨xA, xn, xc, xs⟩, N⟩ := x
                have hgo : (k : Int) < n := by omega
                have a0 := HA0.out.cell 0
                have a1 := HA0.out.cell 1
                have l6 := HA0.out.lt
                try simp only at d0
                have HS : Hid (∀ w' : World, Below wr.heap.size wr w' → w'.cell? ⟨b, off + k * 2, none⟩ = some (.slice xA xn xc) ∧ w'.cell? ⟨w.heap.size, 1, none⟩ = some (.int .i64 col)) := Lib.hid fun w' h => ⟨(h.cell l0).trans d0, (h.cell l6).trans a1⟩
                have HC : Hid (Below wr.heap.size wr wr) := Lib.hid (Below.refl _ _)
                obtain ⟨y, hy⟩ : ∃ y, atR xs col = y := ⟨_, rfl⟩
                have Hy := Lib.hid hy
                clear hy
                go_upto_region 17 with fail
                go_cut [11] (fun s9 wx => ∃ yb : Nat, s9 = .pointer (some ⟨yb, 0, none⟩) ∧ Hid (Below wr.heap.size wr wx) ∧ Hid (Bx wx yb y))
                case first =>
                  go_region_held3 (fun w' => w'.cell? ⟨b, off + k * 2, none⟩ = some (.slice xA xn xc) ∧ w'.cell? ⟨w.heap.size, 1, none⟩ = some (.int .i64 col)) (first | with_reducible exact HS.out _ HC.out | with_reducible exact HS.out _ HC.out.drew | (with_reducible refine HS.out _ ?_; repeat' first | with_reducible refine Below.drew ?_ | with_reducible refine below_al ?_ _ | with_reducible refine Below.setCell ?_ ?_ _ | with_reducible exact HC.out | with_reducible exact HC.out.drew | (dsimp only; omega)) | go_keep)
                    (first
                      | (go_at_call 18
                         with_reducible refine (rat_c xA xn xc xs col _ Hxr.out.hd.len (Hxr.out.hd.after (by repeat' first | with_reducible refine Below.drew ?_ | with_reducible refine below_al ?_ _ | with_reducible exact HC.out)).sl).mono ?_
                         rintro en w9 ⟨rfl, hb9⟩
                         rw [Hy.out]
                         first
                           | (obtain ⟨hbx, hbw, hlx⟩ := box_afterD hb9
                              replace HC : Hid (Below wr.heap.size wr w9) := Lib.hid hbw
                              have HBx := Lib.hid hbx
                              have x0 := hbx.cell 0
                              have x1 := hbx.cell 1
                              have x2 := hbx.cell 2
                              have x3 := hbx.thaw 0
                              have x4 := hbx.thaw 1
                              have x5 := hbx.thaw 2
                              have lx := hlx
                              clear hbx hbw hlx)
                           | (obtain ⟨hbx, hbw, hlx⟩ := box_after hb9
                              replace HC : Hid (Below wr.heap.size wr w9) := Lib.hid hbw
                              have HBx := Lib.hid hbx
                              have x0 := hbx.cell 0
                              have x1 := hbx.cell 1
                              have x2 := hbx.cell 2
                              have x3 := hbx.thaw 0
                              have x4 := hbx.thaw 1
                              have x5 := hbx.thaw 2
                              have lx := hlx
                              clear hbx hbw hlx)
                           | (replace HC : Hid (Below wr.heap.size wr w9) := Lib.hid (by first | exact hb9 | exact below_via (Below.refl _ _).drew hb9))
                         clear hb9))
                  all_goals
                    go_wp2
                    go_meet
                    first
                      | exact ⟨_, rfl, Lib.hid (below_al HC.out _), Lib.hid (Bx.new _ y)⟩
                      | exact ⟨_, rfl, Lib.hid (put3s_below HC.out (Nat.le_refl _) _ _ _), Lib.hid (put3_box HBx.out y)⟩
                case rest =>
                  obtain ⟨yb, rfl, hbc, hyb⟩ := hcut
                  have Hb9 : Hid (Below bb W wc) := Lib.hid (hb.out.trans (hbc.out.mono (Nat.le_of_lt hz.out.lt)))
                  have Hz9 := hz.out.after hbc.out
                  have HA9 := Lib.hid (HA0.out.after hbc.out HA0.out.lt)
                  have hmore := Hmore.out
                  try simp only at hmore
                  obtain ⟨z, hzz⟩ : ∃ z, extB 1 col ((pl cs).take k) = z := ⟨_, rfl⟩
                  rw [hzz] at Hz9 hmore
                  rw [Hy.out] at hmore
                  have HM := Lib.hid hmore
                  replace Hz9 := Lib.hid Hz9
                  have HY9 := Lib.hid hyb.out
                  clear hmore hzz
                  clear a0 a1 l6 d0 l0 HS HC hb hz hbc hyb
                  have a0 := HA9.out.cell 0
                  have l6 := HA9.out.lt
                  have v0 := HY9.out.cell0
                  have v1 := HY9.out.cell1
                  have v2 := HY9.out.cell2
                  have lv := HY9.out.lt
                  have z0 := Hz9.out.cell0
                  have z1 := Hz9.out.cell1
                  have z2 := Hz9.out.cell2
                  have lz := Hz9.out.lt
                  by_cases hy0 : y.k = 0
                  · have hk1 : (y.k == 0) = true := by simp [hy0]
                    have HN : Hid (Bx wc bb (extB 1 col ((pl cs).take (k + 1)))) := Lib.hid (by rw [HM.out]; unfold extV; rw [if_pos hy0]; exact Hz9.out)
                    clear hy0
                    go_wp2_with fail
                    go_roundw
                    case rel => exact ⟨k + 1, by omega, by go_num, Hb9, HN⟩
                    case measure => simp [intOf]; omega
                  · have hk1 : (y.k == 0) = false := by simp [hy0]
                    go_wp2_with fail
                    refine (rcompare_c y z _).mono ?_
                    rintro e w8 ⟨rfl, hb8⟩
                    have Hb8 : Hid (Below bb W w8) := Lib.hid (Hb9.out.trans (hb8.mono (Nat.le_of_lt Hz9.out.lt)))
                    have Hz8 := Lib.hid (Hz9.out.after hb8)
                    have HA8 := Lib.hid (HA9.out.after hb8 HA9.out.lt)
                    have HY8 := Lib.hid (HY9.out.after hb8)
                    clear hb8 a0 l6 v0 v1 v2 lv z0 z1 z2 lz
                    have a0 := HA8.out.cell 0
                    have l6 := HA8.out.lt
                    have v0 := HY8.out.cell0
                    have v1 := HY8.out.cell1
                    have v2 := HY8.out.cell2
                    have lv := HY8.out.lt
                    have z0 := Hz8.out.cell0
                    have z1 := Hz8.out.cell1
                    have z2 := Hz8.out.cell2
                    have y0 := Hz8.out.frozen 0
                    have y1 := Hz8.out.frozen 1
                    have y2 := Hz8.out.frozen 2
                    have lz := Hz8.out.lt
                    by_cases hz0 : z.k = 0
                    · have hk2 : (z.k == 0) = true := by simp [hz0]
                      have HN : Hid (extB 1 col ((pl cs).take (k + 1)) = y) := Lib.hid (by rw [HM.out]; unfold extV; rw [if_neg hy0, if_pos (.inl hz0)])
                      clear hy0 hz0
                      go_wp2_with fail
                      go_roundw
                      case rel => exact ⟨k + 1, by omega, by go_num, Lib.hid (put3_below Hb8.out (Nat.le_refl _) y), Lib.hid (by rw [HN.out]; exact Hz8.out.put y)⟩
                      case measure => simp [intOf]; omega
                    · have hk2 : (z.k == 0) = false := by simp [hz0]
                      by_cases hc : cmpV y z = 1
                      · have HN : Hid (extB 1 col ((pl cs).take (k + 1)) = y) := Lib.hid (by rw [HM.out]; unfold extV; rw [if_neg hy0, if_pos (.inr hc)])
                        have hd : decide (0 < cmpV y z) = true := decide_eq_true (by omega)
                        clear hy0 hz0 hc
                        go_wp2_with fail
                        go_roundw
                        case rel => exact ⟨k + 1, by omega, by go_num, Lib.hid (put3_below Hb8.out (Nat.le_refl _) y), Lib.hid (by rw [HN.out]; exact Hz8.out.put y)⟩
                        case measure => simp [intOf]; omega
                      · have HN : Hid (extB 1 col ((pl cs).take (k + 1)) = z) := Lib.hid (by rw [HM.out]; unfold extV; rw [if_neg hy0, if_neg (by rintro (h | h); exact hz0 h; exact hc h)])
                        have hd : decide (0 < cmpV y z) = false := decide_eq_false (by have := cmp_range y z; omega)
                        clear hy0 hz0 hc
                        go_wp2_with fail
                        go_roundw
                        case rel => exact ⟨k + 1, by omega, by go_num, Hb8, Lib.hid (by rw [HN.out]; exact Hz8.out)⟩
                        case measure => simp [intOf]; omega
              · obtain rfl : k = n := by omega
                have hz2 := hz.out
                rw [show (pl cs).take k = pl cs from List.take_of_length_le (by rw [pl_len, HB.out.len]; exact Nat.le_refl _)] at hz2
                obtain ⟨v1, hv1⟩ : ∃ v1, extB 1 col (pl cs) = v1 := ⟨_, rfl⟩
                have hRe : R = (v1, 0) := by rw [← HRe.out, ← hv1]; rfl
                rw [hv1] at hz2
                subst hRe
                have Hz2 := Lib.hid hz2
                have HZ9 := Lib.hid (HW1.out.after HbW.out)
                have HE9 := Lib.hid (below_via HWb.out HbW.out)
                have g0 := hz2.cell0
                have g1 := hz2.cell1
                have g2 := hz2.cell2
                have lg := hz2.lt
                clear hz2 hv1
                have z0 := HZ9.out.cell0
                have z1 := HZ9.out.cell1
                have z2 := HZ9.out.cell2
                have y0 := HZ9.out.frozen 0
                have y1 := HZ9.out.frozen 1
                have y2 := HZ9.out.frozen 2
                have lz := HZ9.out.lt
                go_wp2_with fail
                exact ret_valE (a := v1) Tryz.results13 rfl rfl (put3_box HZ9.out v1) rfl ⟨rfl, put3s_below HE9.out (Nat.le_succ _) _ _ _⟩
          · have k2 : (fn != 2) = true := by simp [f2]
            have k3 : (fn != 3) = true := by simp [f3]
            go_wp2_with fail
            obtain ⟨U, hU⟩ : ∃ U, W.alloc (.cells #[.int .i64 0, .int .i64 0, .string ⟨#[]⟩] 39) = U := ⟨_, rfl⟩
            obtain ⟨bb, hbb⟩ : ∃ bb, W.heap.size = bb := ⟨_, rfl⟩
            have HbU : Hid (Below bb W U) := Lib.hid (by rw [← hU, ← hbb]; exact below_one _ _)
            have HzU : Hid (Bx U bb nl) := Lib.hid (by rw [← hU, ← hbb]; exact Bx.new W nl)
            have Hlt : Hid (w.heap.size + 1 < bb) := Lib.hid (by rw [← hbb]; exact HW1.out.lt)
            rw [hU, hbb]
            have Hbb := Lib.hid hbb
            clear hU hbb z0 z1 z2 y0 y1 y2 lz a0 a1 l6
            go_loopw [10] (fun q wr => ∃ k : Nat, k ≤ n ∧ q = .int .i64 k ∧ Hid (Below bb W wr) ∧ Hid (Bx wr bb ((fun _ : Bg => nl) ((pl cs).take k)))) (fun q _ => n - (intOf q).toNat)
            case atStart => exact ⟨0, Nat.zero_le _, rfl, HbU, HzU⟩
            case round =>
              obtain ⟨k, hk, rfl, hb, hz⟩ := hrel
              have HbW : Hid (Below W.heap.size W wr) := Lib.hid (by rw [Hbb.out]; exact hb.out)
              have HA0 := Lib.hid (HW0.out.after HbW.out HW0.out.lt)
              by_cases hlt : k < n
              · have HBr := ((HB.out.after HVb.out).after HB1.out).after HbW.out
                obtain ⟨b, off, rfl⟩ := HBr.sl.some2 (k := k) (by rw [HBr.len]; exact hlt)
                obtain ⟨x, hx⟩ : ∃ x, cs[k]? = some x := ⟨_, List.getElem?_eq_getElem (by rw [HBr.len]; exact hlt)⟩
                obtain ⟨l0, d0, _⟩ := HBr.sl.cell2 hx
                have Hxr := Lib.hid (HBr.each x (List.mem_of_getElem? hx))
                clear hx HBr
                obtain ⟨⟨xA, xn, xc, xs⟩, N⟩ := x
                have hgo : (k : Int) < n := by omega
                have a0 := HA0.out.cell 0
                have a1 := HA0.out.cell 1
                have l6 := HA0.out.lt
                try simp only at d0
                have HS : Hid (∀ w' : World, Below wr.heap.size wr w' → w'.cell? ⟨b, off + k * 2, none⟩ = some (.slice xA xn xc) ∧ w'.cell? ⟨w.heap.size, 1, none⟩ = some (.int .i64 col)) := Lib.hid fun w' h => ⟨(h.cell l0).trans d0, (h.cell l6).trans a1⟩
                have HC : Hid (Below wr.heap.size wr wr) := Lib.hid (Below.refl _ _)
                obtain ⟨y, hy⟩ : ∃ y, atR xs col = y := ⟨_, rfl⟩
                have Hy := Lib.hid hy
                clear hy
                go_upto_region 17 with fail
                go_cut [11] (fun s9 wx => ∃ yb : Nat, s9 = .pointer (some ⟨yb, 0, none⟩) ∧ Hid (Below wr.heap.size wr wx) ∧ Hid (Bx wx yb y))
                case first =>
                  go_region_held3 (fun w' => w'.cell? ⟨b, off + k * 2, none⟩ = some (.slice xA xn xc) ∧ w'.cell? ⟨w.heap.size, 1, none⟩ = some (.int .i64 col)) (first | with_reducible exact HS.out _ HC.out | with_reducible exact HS.out _ HC.out.drew | (with_reducible refine HS.out _ ?_; repeat' first | with_reducible refine Below.drew ?_ | with_reducible refine below_al ?_ _ | with_reducible refine Below.setCell ?_ ?_ _ | with_reducible exact HC.out | with_reducible exact HC.out.drew | (dsimp only; omega)) | go_keep)
                    (first
                      | (go_at_call 18
                         with_reducible refine (rat_c xA xn xc xs col _ Hxr.out.hd.len (Hxr.out.hd.after (by repeat' first | with_reducible refine Below.drew ?_ | with_reducible refine below_al ?_ _ | with_reducible exact HC.out)).sl).mono ?_
                         rintro en w9 ⟨rfl, hb9⟩
                         rw [Hy.out]
                         first
                           | (obtain ⟨hbx, hbw, hlx⟩ := box_afterD hb9
                              replace HC : Hid (Below wr.heap.size wr w9) := Lib.hid hbw
                              have HBx := Lib.hid hbx
                              have x0 := hbx.cell 0
                              have x1 := hbx.cell 1
                              have x2 := hbx.cell 2
                              have x3 := hbx.thaw 0
                              have x4 := hbx.thaw 1
                              have x5 := hbx.thaw 2
                              have lx := hlx
                              clear hbx hbw hlx)
                           | (obtain ⟨hbx, hbw, hlx⟩ := box_after hb9
                              replace HC : Hid (Below wr.heap.size wr w9) := Lib.hid hbw
                              have HBx := Lib.hid hbx
                              have x0 := hbx.cell 0
                              have x1 := hbx.cell 1
                              have x2 := hbx.cell 2
                              have x3 := hbx.thaw 0
                              have x4 := hbx.thaw 1
                              have x5 := hbx.thaw 2
                              have lx := hlx
                              clear hbx hbw hlx)
                           | (replace HC : Hid (Below wr.heap.size wr w9) := Lib.hid (by first | exact hb9 | exact below_via (Below.refl _ _).drew hb9))
                         clear hb9))
                  all_goals
                    go_wp2
                    go_meet
                    first
                      | exact ⟨_, rfl, Lib.hid (below_al HC.out _), Lib.hid (Bx.new _ y)⟩
                      | exact ⟨_, rfl, Lib.hid (put3s_below HC.out (Nat.le_refl _) _ _ _), Lib.hid (put3_box HBx.out y)⟩
                case rest =>
                  obtain ⟨yb, rfl, hbc, hyb⟩ := hcut
                  have Hb9 : Hid (Below bb W wc) := Lib.hid (hb.out.trans (hbc.out.mono (Nat.le_of_lt hz.out.lt)))
                  have Hz9 := hz.out.after hbc.out
                  have HA9 := Lib.hid (HA0.out.after hbc.out HA0.out.lt)
                  obtain ⟨z, hzz⟩ : ∃ z : Val, nl = z := ⟨_, rfl⟩
                  have Hzz := Lib.hid hzz
                  try simp only at Hz9
                  rw [hzz] at Hz9
                  replace Hz9 := Lib.hid Hz9
                  have HY9 := Lib.hid hyb.out
                  clear hzz
                  clear a0 a1 l6 d0 l0 HS HC hb hz hbc hyb
                  have a0 := HA9.out.cell 0
                  have l6 := HA9.out.lt
                  have v0 := HY9.out.cell0
                  have v1 := HY9.out.cell1
                  have v2 := HY9.out.cell2
                  have lv := HY9.out.lt
                  have z0 := Hz9.out.cell0
                  have z1 := Hz9.out.cell1
                  have z2 := Hz9.out.cell2
                  have lz := Hz9.out.lt
                  by_cases hy0 : y.k = 0
                  · have hk1 : (y.k == 0) = true := by simp [hy0]
                    have HN : Hid (Bx wc bb nl) := Lib.hid (by rw [Hzz.out]; exact Hz9.out)
                    clear hy0
                    go_wp2_with fail
                    go_roundw
                    case rel => exact ⟨k + 1, by omega, by go_num, Hb9, HN⟩
                    case measure => simp [intOf]; omega
                  · have hk1 : (y.k == 0) = false := by simp [hy0]
                    have HN : Hid (Bx wc bb nl) := Lib.hid (by rw [Hzz.out]; exact Hz9.out)
                    clear hy0
                    go_wp2_with fail
                    go_roundw
                    case rel => exact ⟨k + 1, by omega, by go_num, Hb9, HN⟩
                    case measure => simp [intOf]; omega
              · obtain rfl : k = n := by omega
                have hz2 := hz.out
                rw [show (pl cs).take k = pl cs from List.take_of_length_le (by rw [pl_len, HB.out.len]; exact Nat.le_refl _)] at hz2
                obtain ⟨v1, hv1⟩ : ∃ v1, (fun _ : Bg => nl) (pl cs) = v1 := ⟨_, rfl⟩
                have hRe : R = (v1, 0) := by rw [← HRe.out, ← hv1]; unfold aggR; rw [if_neg f0, if_neg f1, if_neg f2, if_neg f3]
                rw [hv1] at hz2
                subst hRe
                have Hz2 := Lib.hid hz2
                have HZ9 := Lib.hid (HW1.out.after HbW.out)
                have HE9 := Lib.hid (below_via HWb.out HbW.out)
                have g0 := hz2.cell0
                have g1 := hz2.cell1
                have g2 := hz2.cell2
                have lg := hz2.lt
                clear hz2 hv1
                have z0 := HZ9.out.cell0
                have z1 := HZ9.out.cell1
                have z2 := HZ9.out.cell2
                have y0 := HZ9.out.frozen 0
                have y1 := HZ9.out.frozen 1
                have y2 := HZ9.out.frozen 2
                have lz := HZ9.out.lt
                go_wp2_with fail
                exact ret_valE (a := v1) Tryz.results13 rfl rfl (put3_box HZ9.out v1) rfl ⟨rfl, put3s_below HE9.out (Nat.le_succ _) _ _ _⟩
  · have h1 : (r != 0) = true := by simp [h0]
    have hRe : R = (nl, r) := by rw [← HR.out]; unfold aggF; rw [if_neg (by rw [Hr.out]; exact h0), Hr.out]
    subst hRe
    clear h0
    go_wp2_with fail
    exact ret_valE (a := nl) Tryz.results13 rfl rfl (put3_box HW1.out nl) rfl ⟨rfl, put3s_below HWb.out (Nat.le_succ _) _ _ _⟩
end Go.Proofs.YtldaoepemofhlaaGreatDoor

namespace Go.Proofs.YtldaoepemofhlaaGreatDoor
open Go Go.RowKit
set_option maxRecDepth 100000
attribute [local go_sem ↓] Go.wp_at_zero Go.wp_at_succ

theorem inB_take (ps : List Int) (ks : List Val) {b : Bg} {k : Nat} {x : List Val × Int} (h : b[k]? = some x) : inB ps ks (b.take (k + 1)) = inB ps ks (b.take k) ++ (if pickR x.1 ps = some ks then [x] else []) := by
  unfold inB stayB
  rw [List.take_add_one, h, List.filter_append]
  congr 1
  by_cases hp : pickR x.1 ps = some ks
  · rw [if_pos hp]
    exact List.filter_cons_of_pos (decide_eq_true hp)
  · rw [if_neg hp]
    exact List.filter_cons_of_neg (by show ¬ decide (pickR x.1 ps = some ks) = true; rw [decide_eq_false hp]; exact Bool.false_ne_true)
set_option maxHeartbeats 8000000 in
theorem rin_c (x : Vq) (A K : Option Addr) (n c kn kc : Nat) (cs : List Ct) (ks : List Val) (w : World) (hx : Vq.In w x) (hA : BgIn w A n cs) (hK : Hd.In w ⟨K, kn, kc, ks⟩) (hn : n ≤ 100000) (hp : x.pn ≤ 100000) :
    Calls Tryz.prog 35 #[x.w, .slice A n c, .slice K kn kc] w fun e w' => ∃ A' n' c' os, e = .returned (.slice A' n' c') ∧ Below w.heap.size w w' ∧ OwnG w' w.heap.size 49 2 rdC (.slice A' n' c') os ∧ os.length = n' ∧ (∀ y ∈ os, y ∈ cs) ∧ n' ≤ n ∧ pl os = inB x.ps ks (pl cs) := by
  have HX := Lib.hid hx
  have HA := Lib.hid hA
  have HKy := Lib.hid hK
  clear hx hA hK
  obtain ⟨nm, fr, wt, o0, o1, eA, en, ec, ee, pA, pn, pc, ps, gr, aA, an, ac⟩ := x
  have hb0 : Below w.heap.size w ((w.alloc (.cells #[.string nm, .string fr, .string wt, .int .i64 o0, .int .i64 o1, .slice eA en ec, .slice pA pn pc, .bool gr, .slice aA an ac] 28)).alloc (.cells #[] 49)) := below_al (below_one _ _) _
  have hq0 : Bq ((w.alloc (.cells #[.string nm, .string fr, .string wt, .int .i64 o0, .int .i64 o1, .slice eA en ec, .slice pA pn pc, .bool gr, .slice aA an ac] 28)).alloc (.cells #[] 49)) w.heap.size (⟨nm, fr, wt, o0, o1, eA, en, ec, ee, pA, pn, pc, ps, gr, aA, an, ac⟩ : Vq) := (Bq.new w (⟨nm, fr, wt, o0, o1, eA, en, ec, ee, pA, pn, pc, ps, gr, aA, an, ac⟩ : Vq)).below (below_one _ _) (by simp)
  have hl0 : w.heap.size < ((w.alloc (.cells #[.string nm, .string fr, .string wt, .int .i64 o0, .int .i64 o1, .slice eA en ec, .slice pA pn pc, .bool gr, .slice aA an ac] 28)).alloc (.cells #[] 49)).heap.size := by simp; omega
  have Hb0 := Lib.hid hb0
  have HQ := Lib.hid hq0
  have Hl := Lib.hid hl0
  clear hb0 hq0 hl0
  dsimp only [Vq.w]
  try simp only at hp
  have Hpl := Lib.hid HX.out.plen
  try simp only at Hpl
  have ho0 : OwnG ((w.alloc (.cells #[.string nm, .string fr, .string wt, .int .i64 o0, .int .i64 o1, .slice eA en ec, .slice pA pn pc, .bool gr, .slice aA an ac] 28)).alloc (.cells #[] 49)) (w.heap.size + 1) 49 2 rdC (.slice (some ⟨w.heap.size + 1, 0, none⟩) 0 0) [] := by
    have h := OwnG.made (S := 2) (rd := rdC) (w.alloc (.cells #[.string nm, .string fr, .string wt, .int .i64 o0, .int .i64 o1, .slice eA en ec, .slice pA pn pc, .bool gr, .slice aA an ac] 28)) (w.heap.size + 1) 49 #[] 0 (by simp) (Nat.zero_le _) rfl
    rw [show (w.alloc (.cells #[.string nm, .string fr, .string wt, .int .i64 o0, .int .i64 o1, .slice eA en ec, .slice pA pn pc, .bool gr, .slice aA an ac] 28)).heap.size = w.heap.size + 1 by simp] at h
    exact h
  have HO0 := Lib.hid ho0
  clear ho0
  go_enter Tryz.func35, Tryz.ntmps35
  go_wp2_with fail
  obtain ⟨W, hW⟩ : ∃ W : World, (w.alloc (.cells #[.string nm, .string fr, .string wt, .int .i64 o0, .int .i64 o1, .slice eA en ec, .slice pA pn pc, .bool gr, .slice aA an ac] 28)).alloc (.cells #[] 49) = W := ⟨_, rfl⟩
  rw [hW] at Hb0 HQ Hl HO0 ⊢
  clear hW
  go_loopw [7, 8] (fun v q wr => ∃ (k : Nat) (os : List Ct), k ≤ n ∧ q = .int .i64 k ∧ Hid (Below (w.heap.size + 1) W wr) ∧ Hid (OwnG wr (w.heap.size + 1) 49 2 rdC v os) ∧ Hid (∀ y ∈ os, y ∈ cs) ∧ Hid (os.length ≤ k) ∧ Hid (pl os = inB ps ks ((pl cs).take k))) (fun _ q _ => n - (intOf q).toNat)
  case atStart => exact ⟨0, [], Nat.zero_le _, rfl, Lib.hid (Below.refl _ _), HO0, Lib.hid nofun, Lib.hid (Nat.le_refl _), Lib.hid rfl⟩
  case round =>
    obtain ⟨k, os, hk, rfl, hb, HO, HI, HLn, HP⟩ := hrel
    clear HO0
    have Hw := Lib.hid (Hb0.out.trans (hb.out.mono (Nat.le_succ _)))
    have hlw : w.heap.size + 1 ≤ wr.heap.size := Nat.le_trans Hl.out hb.out.size
    obtain ⟨A', c', hv, hcl, hcm, hsl⟩ := HO.out.sl cOk.len
    obtain ⟨n', hn'⟩ : ∃ n', os.length = n' := ⟨_, rfl⟩
    rw [hn'] at hv
    subst hv
    have HN' := Lib.hid hn'
    have HBg : Hid (BgIn wr A' n' os) := Lib.hid ⟨hn', by rw [← hn']; exact Nat.le_trans hcl hcm, hsl, fun y hy => ((HA.out.each y (HI.out y hy)).after Hw.out)⟩
    have hn3 : n' ≤ k := by have := HLn.out; omega
    clear hn' hsl hcl hcm
    by_cases hlt : k < n
    · have hgo : (k : Int) < n := by omega
      obtain ⟨b, off, rfl⟩ := HA.out.sl.some2 (k := k) (by rw [HA.out.len]; exact hlt)
      obtain ⟨y, hy⟩ : ∃ y, cs[k]? = some y := ⟨_, List.getElem?_eq_getElem (by rw [HA.out.len]; exact hlt)⟩
      obtain ⟨hblt, c0, c1⟩ := HA.out.sl.cell2 hy
      have d0 := (Hw.out.cell (p := ⟨b, off + k * 2, none⟩) hblt).trans c0
      have l0 : b < wr.heap.size := Nat.lt_of_lt_of_le hblt Hw.out.size
      have q6 := (HQ.out.below hb.out (Nat.lt_succ_self _)).pick
      try simp only at q6
      have lq : w.heap.size < wr.heap.size := hlw
      have HC0 := Lib.hid c0
      have HC1 := Lib.hid c1
      have HB1 := Lib.hid hblt
      have Hyr := Lib.hid ((HA.out.each y (List.mem_of_getElem? hy)).after Hw.out)
      have HVr := Lib.hid (HX.out.after Hw.out)
      have HKr := Lib.hid (HKy.out.after Hw.out)
      have Hym := Lib.hid (List.mem_of_getElem? hy)
      have Htk := Lib.hid (inB_take ps ks (pl_at hy))
      clear c0 c1 hy hblt
      obtain ⟨⟨xA, xn, xc, xs⟩, N⟩ := y
      try simp only at d0
      have HC : Hid (Below wr.heap.size wr wr) := Lib.hid (Below.refl _ _)
      have HS : Hid (∀ w' : World, Below wr.heap.size wr w' → w'.cell? ⟨b, off + k * 2, none⟩ = some (.slice xA xn xc) ∧ w'.cell? ⟨w.heap.size, 6, none⟩ = some (.slice pA pn pc)) := Lib.hid fun w' h => ⟨(h.cell l0).trans d0, (h.cell lq).trans q6⟩
      go_wp2_with fail
      go_region_held3 (fun w' => w'.cell? ⟨b, off + k * 2, none⟩ = some (.slice xA xn xc) ∧ w'.cell? ⟨w.heap.size, 6, none⟩ = some (.slice pA pn pc)) (first | with_reducible exact HS.out _ HC.out | with_reducible exact HS.out _ HC.out.drew | go_keep)
        (first
          | (go_at_call 53
             refine (rpick4_c xA pA xn xc pn pc xs ps _ Hyr.out.hd.len Hyr.out.hd.max (Hyr.out.hd.sl.after (by first | with_reducible exact HC.out | with_reducible exact HC.out.drew)) Hpl.out (by omega) (HVr.out.psl.after (by first | with_reducible exact HC.out | with_reducible exact HC.out.drew))).mono ?_
             rintro en wx ⟨h9, ok, rfl, hbx, hIn9, hok9, hrm9⟩
             replace HC : Hid (Below wr.heap.size wr wx) := Lib.hid (by first | exact below_via HC.out hbx | exact below_via HC.out (below_via (Below.refl _ _).drew hbx))
             have HI9 := Lib.hid hIn9
             have HK9 := Lib.hid hok9
             dsimp only [Hd.v]
             clear hbx hIn9 hok9 hrm9))
      all_goals
        have Hbx := Lib.hid (hb.out.trans (HC.out.mono hlw))
        have HOx := Lib.hid (HO.out.after HC.out)
        have Hwx := Lib.hid (below_via Hw.out HC.out)
        have hlx : w.heap.size + 1 ≤ wx.heap.size := Nat.le_trans hlw HC.out.size
        clear d0 q6
        obtain ⟨hA9, hn9, hc9, hxs9⟩ := h9
        have hok := HK9.out
        unfold pickOk at hok
        have htk := Htk.out
        try simp only at htk
        cases hpr : pickR xs ps with
        | none =>
          rw [hpr] at hok htk
          obtain ⟨rfl, _⟩ := hok
          have HP2 : Hid (pl os = inB ps ks ((pl cs).take (k + 1))) := Lib.hid (by
            rw [htk, HP.out, if_neg (by intro h; cases h), List.append_nil])
          clear hpr htk
          go_wp2
          go_roundw
          case rel => exact ⟨k + 1, os, by omega, by go_num, Hbx, HOx, HI, Lib.hid (by have := HLn.out; omega), HP2⟩
          case measure => simp [intOf]; omega
        | some l =>
          rw [hpr] at hok htk
          obtain ⟨rfl, rfl⟩ := hok
          have HTk := Lib.hid htk
          clear hpr htk
          go_wp2_with fail
          refine (rcompareL_c hA9 K hn9 kn hc9 kc hxs9 ks _ HI9.out.len HKr.out.len HI9.out.max HKr.out.max HI9.out.sl (HKr.out.sl.after HC.out)).mono ?_
          rintro e w8 ⟨rfl, hb8⟩
          have Hb8 := Lib.hid (Hbx.out.trans (hb8.mono hlx))
          have HO8 := Lib.hid (HOx.out.after hb8)
          have Hw8 := Lib.hid (below_via Hwx.out hb8)
          have hl8 : w.heap.size + 1 ≤ w8.heap.size := Nat.le_trans hlx hb8.size
          clear hb8
          by_cases he : hxs9 = ks
          · have hk0 : (cmpL hxs9 ks == 0) = true := by rw [cmpL_iff.2 he]; rfl
            have HP2 : Hid (pl (os ++ [⟨⟨xA, xn, xc, xs⟩, N⟩]) = inB ps ks ((pl cs).take (k + 1))) := Lib.hid (by rw [HTk.out, if_pos (by rw [he]), ← HP.out]; simp [pl])
            have HI2 : Hid (∀ y ∈ os ++ [(⟨⟨xA, xn, xc, xs⟩, N⟩ : Ct)], y ∈ cs) := Lib.hid fun y hy => by
              rcases List.mem_append.1 hy with hy | hy
              · exact HI.out y hy
              · rw [List.mem_singleton] at hy
                subst hy
                exact Hym.out
            have g0 := (Hw8.out.cell (p := ⟨b, off + k * 2, none⟩) HB1.out).trans HC0.out
            have g1 := (Hw8.out.cell (p := ⟨b, off + k * 2 + 1, none⟩) HB1.out).trans HC1.out
            try simp only at g0 g1
            clear he
            go_wp2_with (at_builtin; go_must (
              refine wpList_appG cOk rfl (.tmp 36) (.tmp 41) rfl (w.heap.size + 1) _ os [⟨⟨xA, xn, xc, xs⟩, N⟩] (some ⟨w8.heap.size, 0, none⟩) 1 1 rfl (HO8.out.alloc _) rfl rfl (SlG.new cOk.len [⟨⟨xA, xn, xc, xs⟩, N⟩] rfl) (by have := HLn.out; simp [maxLen]; omega) (by have := HLn.out; simp; omega) (by simp; omega) ?_
              intro v5 w5 hv5 hg5
              have Hv5 := Lib.hid hv5
              have Hb5 := Lib.hid ((Hb8.out.alloc hl8 _).grown hg5 (by simp; omega) (fun k hk => (HO8.out.lt k hk).1))
              clear hv5 hg5))
            go_roundw
            case rel => exact ⟨k + 1, _, by omega, by go_num, Hb5, Hv5, HI2, Lib.hid (by have := HLn.out; simp; omega), HP2⟩
            case measure => simp [intOf]; omega
          · have hk0 : (cmpL hxs9 ks == 0) = false := by
              rw [beq_eq_false_iff_ne]
              exact fun h => he (cmpL_iff.1 h)
            have HP2 : Hid (pl os = inB ps ks ((pl cs).take (k + 1))) := Lib.hid (by
              rw [HTk.out, HP.out, if_neg (fun h => he (Option.some.inj h)), List.append_nil])
            clear he
            go_wp2
            go_roundw
            case rel => exact ⟨k + 1, os, by omega, by go_num, Hb8, HO8, HI, Lib.hid (by have := HLn.out; omega), HP2⟩
            case measure => simp [intOf]; omega
    · obtain rfl : k = n := by omega
      have HF : Hid (pl os = inB ps ks (pl cs)) := Lib.hid (by rw [HP.out, List.take_of_length_le (by rw [pl_len, HA.out.len]; exact Nat.le_refl _)])
      go_wp2_with fail
      go_ret
      exact ⟨A', n', c', os, rfl, Hw.out, HO.out.mono (Nat.le_succ _), HN'.out, HI.out, hn3, HF.out⟩
end Go.Proofs.YtldaoepemofhlaaGreatDoor

namespace Go.Proofs.YtldaoepemofhlaaGreatDoor
open Go Go.RowKit
set_option maxRecDepth 100000
attribute [local go_sem ↓] Go.wp_at_zero Go.wp_at_succ

/-- Two slices that lie apart. -/
def ApartZ (u v : Value) : Prop := ∀ k, u.ownBlock = some k → v.ownBlock ≠ some k
theorem ApartZ.app {α : Type} {rd : α → List Value} {S : Nat} {E : TypeId} {w X : World} {B : Nat} {u v v' : Value} {us : List α} (hu : OwnG w B E S rd u us) (hap : ApartZ u v) (hX : w.heap.size ≤ X.heap.size) (hl : v'.ownBlock = v.ownBlock ∨ v'.ownBlock = some X.heap.size) : ApartZ u v' := by
  intro k hk
  have := hu.lt k hk
  rcases hl with hl | hl
  · rw [hl]; exact hap k hk
  · rw [hl]
    intro e
    cases e
    omega
theorem OwnG.keepZ {α : Type} {rd : α → List Value} {S : Nat} {E : TypeId} {w w' : World} {B : Nat} {u v : Value} {us : List α} (hu : OwnG w B E S rd u us) (hg : w.grownBy w' v.ownBlock) (hap : ApartZ u v) : OwnG w' B E S rd u us := by
  refine hu.same fun k hk => ?_
  exact hg.block k (hu.lt k hk).2 (fun e => hap k hk e.symm)
theorem stay_mayZ (p : List Val → Bool) {b : Bg} (h : mayBag b = true) : mayBag (stayB p b) = true :=
  may_of (stay_asc p (may_asc h)) fun x hx => may_okC h x (List.mem_filter.1 hx).1
theorem refR_of {b : Bg} (hm : mayBag b = true) (hG : GOk b) : refR b = 0 := by
  unfold refR
  rw [if_pos hm, if_neg, if_neg]
  · have := hG.2; omega
  · rw [List.any_eq_true]
    rintro ⟨x, hx, h⟩
    have := hG.1 x hx
    have := of_decide_eq_true h
    omega
theorem refR_in {b : Bg} (ps : List Int) (k : List Val) (h : refR b = 0) : refR (inB ps k b) = 0 := refR_of (stay_mayZ _ (refR_ok h).1) ((refR_ok h).2.filter _)
theorem pickF_long {ps : List Int} (h : 40 < ps.length) (xs : List Val) : pickF ps xs = [] := by
  unfold pickF
  cases hq : pickR xs ps with
  | none => rfl
  | some q => exact if_neg (by rw [pick_len ps xs q hq]; omega)
theorem mapB_long {ps : List Int} (h : 40 < ps.length) : ∀ b o : Bg, mapB (pickF ps) b o = o
  | [], _ => rfl
  | x :: b, o => by
    show mapB (pickF ps) b ((pickF ps x.1).foldl (fun o y => addB o y.1 (y.2 * x.2)) o) = _
    rw [pickF_long h, mapB_long h b]
    rfl
/-- The document's picks of a bag that is to be grouped are the program's. -/
theorem rkeys {ps : List Int} {b : Bg} (h : refR b = 0) (hl : b.length ≤ 60) : rpickP ps b = pickP ps b := by
  obtain ⟨hm, hG⟩ := refR_ok h
  by_cases hp : ps.length ≤ 40
  · have e := pickP_G hm hp hG hl
    have h2 : mayBag (pickB ps b) = true := by rw [← e]; exact pickP_may ps b
    unfold rpickP
    rw [hm, h2, e]
    rfl
  · have e : pickB ps b = [] := mapB_long (by omega) b []
    unfold rpickP pickP
    rw [e, decide_eq_false hp, Bool.and_false]
    split <;> rfl
set_option maxHeartbeats 8000000 in
theorem rrows_c (x : Vq) (ags : List (Int × Int)) (A : Option Addr) (n c : Nat) (cs : List Ct) (w : World) (hx : Vq.In w x) (hL : SlG w x.aA 2 rdA ags) (hLn : ags.length = x.an) (ha : x.an ≤ 60) (hp : x.pn ≤ 60) (hA : BgIn w A n cs) (hn : n ≤ 60) :
    Calls Tryz.prog 11 #[x.w, .slice A n c] w fun e w' => ∃ A' n' c' os er, e = .returned (.tuple #[.slice A' n' c', .int .i64 er]) ∧ GrpSaid w A' n' os er (rowsF x.ps x.grp ags (pl cs)) w' := by
  have HQ : Hid (Bq (w.alloc (.cells x.cells 28)) w.heap.size x) := Lib.hid (Bq.new w x)
  have HX := Lib.hid hx
  have HA := Lib.hid hA
  have HL := Lib.hid hL
  have HLn := Lib.hid hLn
  clear hA hx hL hLn
  obtain ⟨nm, fr, wt, o0, o1, eA, en, ec, ee, pA, pn, pc, ps, gr, aA, an, ac⟩ := x
  obtain ⟨V, hV⟩ : ∃ V, w.alloc (.cells #[.string nm, .string fr, .string wt, .int .i64 o0, .int .i64 o1, .slice eA en ec, .slice pA pn pc, .bool gr, .slice aA an ac] 28) = V := ⟨_, rfl⟩
  have HQ1 : Hid (Bq V w.heap.size ⟨nm, fr, wt, o0, o1, eA, en, ec, ee, pA, pn, pc, ps, gr, aA, an, ac⟩) := Lib.hid (by rw [← hV]; exact HQ.out)
  have Hb0 : Hid (Below w.heap.size w V) := Lib.hid (by rw [← hV]; exact below_one _ _)
  have Hl0 : Hid (w.heap.size < V.heap.size) := Lib.hid (by rw [← hV]; simp)
  clear HQ
  dsimp only [Vq.w]
  have Hpl := Lib.hid HX.out.plen
  try simp only at ha hp HLn Hpl HL
  obtain ⟨R, hR⟩ : ∃ R, rowsF ps gr ags (pl cs) = R := ⟨_, rfl⟩
  have HR := Lib.hid hR
  rw [hR]
  clear hR
  go_enter Tryz.func11, Tryz.ntmps11
  go_wp2_with fail
  clear hV
  refine (rright_c A n c cs V (HA.out.after Hb0.out) (by omega)).mono ?_
  rintro e W ⟨rfl, hb1⟩
  have HbW := Lib.hid (below_via Hb0.out hb1)
  have HQW := Lib.hid (HQ1.out.below hb1 Hl0.out)
  have HlW := Lib.hid (Nat.lt_of_lt_of_le Hl0.out hb1.size)
  obtain ⟨r, hr⟩ : ∃ r, refR (pl cs) = r := ⟨_, rfl⟩
  have Hr := Lib.hid hr
  rw [hr]
  clear hb1 Hb0 HQ1 Hl0 hr
  by_cases h0 : r = 0
  · have hr1 : (r != 0) = false := by simp [h0]
    have H0 : Hid (refR (pl cs) = 0) := Lib.hid (by rw [Hr.out]; exact h0)
    obtain ⟨q0, q1, q2, q3, q4, q5, q6, q7, q8⟩ := HQW.out.allG
    try simp only at q0 q1 q2 q3 q4 q5 q6 q7 q8
    have lq := HlW.out
    clear h0
    go_wp2_with fail
    refine (rpick10_c (⟨nm, fr, wt, o0, o1, eA, en, ec, ee, pA, pn, pc, ps, gr, aA, an, ac⟩ : Vq) A n c cs W (HX.out.after HbW.out) (HA.out.after HbW.out) (by omega) (by show pn ≤ 1000; omega)).mono ?_
    rintro e W2 ⟨A2, n2, c2, os, rfl, hb2, hB2, hp2⟩
    have HB2 := Lib.hid hB2
    have Hp2 : Hid (pl os = pickP ps (pl cs)) := Lib.hid (by rw [hp2]; exact rkeys H0.out (by rw [pl_len, HA.out.len]; exact hn))
    have hn3 : n2 ≤ n := by
      have h1 : (pl os).length ≤ (pl cs).length := by rw [Hp2.out]; exact pickP_len _ _
      rw [pl_len, pl_len, HB2.out.len, HA.out.len] at h1
      exact h1
    have HbW2 := Lib.hid (below_via HbW.out hb2)
    have HQ3 := Lib.hid (HQW.out.below hb2 HlW.out)
    have Hl2 := Lib.hid (Nat.lt_of_lt_of_le HlW.out hb2.size)
    clear q0 q1 q2 q3 q4 q5 q6 q7 q8 lq hp2 hB2 hb2 HQW HlW
    obtain ⟨q0, q1, q2, q3, q4, q5, q6, q7, q8⟩ := HQ3.out.allG
    try simp only at q0 q1 q2 q3 q4 q5 q6 q7 q8
    have lq := Hl2.out
    cases gr
    · have HF : Hid (GrpSaid w A2 n2 os 0 R W2) := Lib.hid (by
        have : R = (pickP ps (pl cs), 0) := by rw [← HR.out]; unfold rowsF; rw [if_pos H0.out, if_pos (.inl rfl)]
        subst this
        exact ⟨HbW2.out, HB2.out, rfl, Hp2.out⟩)
      go_wp2_with fail
      go_ret2
      exact ⟨_, _, _, _, _, rfl, HF.out⟩
    · by_cases hn0 : n2 = 0
      · subst hn0
        have HF : Hid (GrpSaid w (some ⟨W2.heap.size, 0, none⟩) 0 [] 0 R (W2.alloc (.cells #[] 49))) := Lib.hid (by
          have h1 : os = [] := List.length_eq_zero_iff.1 HB2.out.len
          have h2 : pickP ps (pl cs) = [] := by rw [← Hp2.out, h1]; rfl
          have : R = ([], 0) := by rw [← HR.out]; unfold rowsF; rw [if_pos H0.out, if_pos (.inr h2), h2]
          subst this
          exact ⟨below_via HbW2.out (below_one _ _), ⟨rfl, Nat.zero_le _, .inl rfl, nofun⟩, rfl, rfl⟩)
        go_wp2_with fail
        obtain ⟨W3, hW3⟩ : ∃ W3, W2.alloc (.cells #[] 49) = W3 := ⟨_, rfl⟩
        rw [hW3] at HF
        rw [hW3]
        clear hW3
        go_loopw [8, 9] (fun v q wr => v = .slice (some ⟨W2.heap.size, 0, none⟩) 0 0 ∧ q = .int .i64 0 ∧ W3 = wr) (fun _ _ _ => 0)
        case atStart => exact ⟨rfl, rfl, rfl⟩
        case round =>
          obtain ⟨rfl, rfl, rfl⟩ := hrel
          go_wp2_with fail
          go_ret2
          exact ⟨_, _, _, _, _, rfl, HF.out⟩
      · have hn1 : 0 < n2 := by omega
        have HN0 : Hid (¬ (true = false ∨ pickP ps (pl cs) = [])) := Lib.hid (by
          rintro (h | h)
          · cases h
          · rw [← Hp2.out] at h
            have := congrArg List.length h
            rw [pl_len, HB2.out.len] at this
            exact hn0 this)
        have hw1 : wrap64 ((pn : Int) + an) = pn + an := by unfold wrap64; omega
        clear hn0
        by_cases h40 : 40 < pn + an
        · have h41 : decide ((40 : Int) < (pn : Int) + an) = true := decide_eq_true (by omega)
          have HF : Hid (GrpSaid w none 0 [] 100 R W2) := Lib.hid (by
            have h1 : ps.length = pn := Hpl.out
            have h2 : ags.length = an := HLn.out
            have : R = ([], 100) := by rw [← HR.out]; unfold rowsF; rw [if_pos H0.out, if_neg HN0.out, if_pos (by omega)]
            subst this
            exact ⟨HbW2.out, bgIn_nil _, rfl, rfl⟩)
          go_wp2_with fail
          go_ret2
          exact ⟨_, _, _, _, _, rfl, HF.out⟩
        · have h41 : decide ((40 : Int) < (pn : Int) + an) = false := decide_eq_false (by omega)
          have han : an ≤ 40 := by omega
          have HRe : Hid (R = if errG ps ags (pl cs) (pl os) = 0 then (valG ps ags (pl cs) (pl os), 0) else ([], errG ps ags (pl cs) (pl os))) := Lib.hid (by
            have h1 : ps.length = pn := Hpl.out
            have h2 : ags.length = an := HLn.out
            rw [← HR.out, Hp2.out]
            unfold rowsF
            rw [if_pos H0.out, if_neg HN0.out, if_neg (by omega)])
          go_wp2_with fail
          obtain ⟨W3, hW3⟩ : ∃ W3, W2.alloc (.cells #[] 49) = W3 := ⟨_, rfl⟩
          obtain ⟨ob, hob⟩ : ∃ ob, W2.heap.size = ob := ⟨_, rfl⟩
          have HO0 : Hid (OwnG W3 ob 49 2 rdC (.slice (some ⟨ob, 0, none⟩) 0 0) []) := Lib.hid (by
            rw [← hW3, ← hob]
            exact OwnG.made (S := 2) (rd := rdC) W2 W2.heap.size _ #[] 0 (Nat.le_refl _) (Nat.zero_le _) rfl)
          have Hb3 : Hid (Below ob W2 W3) := Lib.hid (by rw [← hW3, ← hob]; exact below_one _ _)
          rw [hW3, hob]
          have Hob := Lib.hid hob
          have hob3 : ob < W3.heap.size := by rw [← hW3, ← hob]; simp
          have Hob3 := Lib.hid hob3
          clear hW3 hob hob3 q0 q1 q2 q3 q4 q5 q6 q7 q8 lq hw1 h41
          go_loopw [8, 9] (fun v q wr => ∃ (k m : Nat) (A' : Option Addr) (c' : Nat) (ol : List Ct), k ≤ n2 ∧ m = k ∧ q = .int .i64 k ∧ v = .slice A' m c' ∧ Hid (ol.length = m) ∧ Hid (Below ob W2 wr) ∧ Hid (ob ≤ wr.heap.size) ∧ Hid (OwnG wr ob 49 2 rdC (.slice A' m c') ol) ∧ Hid (ApartC wr A' ol) ∧ Hid (pl ol = valG ps ags (pl cs) ((pl os).take k)) ∧ Hid (errG ps ags (pl cs) (pl os) = errG ps ags (pl cs) ((pl os).drop k))) (fun _ q _ => n2 - (intOf q).toNat)
          case atStart => exact ⟨0, 0, some ⟨ob, 0, none⟩, 0, [], Nat.zero_le _, rfl, rfl, rfl, Lib.hid rfl, Hb3, Lib.hid (Nat.le_of_lt Hob3.out), HO0, Lib.hid (ApartC.nil _ _), Lib.hid rfl, Lib.hid rfl⟩
          case round =>
            obtain ⟨wq, hwq⟩ : ∃ wq, wq = wr := ⟨_, rfl⟩
            subst hwq
            obtain ⟨k, m, A', c', ol, hk, rfl, rfl, rfl, hol, hb, hobr, ho, hap, hst, her⟩ := hrel
            have HbV : Hid (Below W2.heap.size W2 wq) := Lib.hid (by rw [Hob.out]; exact hb.out)
            have Hwr := Lib.hid (below_via HbW2.out HbV.out)
            by_cases hlt : m < n2
            · obtain ⟨b, off, rfl⟩ := HB2.out.sl.some2 (k := m) (by rw [HB2.out.len]; exact hlt)
              obtain ⟨x, hx⟩ : ∃ x, os[m]? = some x := ⟨_, List.getElem?_eq_getElem (by rw [HB2.out.len]; exact hlt)⟩
              obtain ⟨hblt, c0, _⟩ := HB2.out.sl.cell2 hx
              have d0 := (HbV.out.cell (p := ⟨b, off + m * 2, none⟩) hblt).trans c0
              have l0 : b < wq.heap.size := Nat.lt_of_lt_of_le hblt HbV.out.size
              have Hxr := Lib.hid ((HB2.out.each x (List.mem_of_getElem? hx)).after HbV.out)
              have Hx40 := Lib.hid (show x.h.xs.length ≤ 40 from (may_row (by rw [Hp2.out]; exact pickP_may ps (pl cs)) (pl_mem (List.mem_of_getElem? hx))).1)
              have Hvk := Lib.hid (valG_take (ps := ps) (ags := ags) (b := pl cs) (pl_at hx))
              have Hek := Lib.hid (errG_drop (ps := ps) (ags := ags) (b := pl cs) (pl_at hx))
              have HQr := Lib.hid (HQ3.out.below HbV.out Hl2.out)
              have Hlr := Lib.hid (Nat.lt_of_lt_of_le Hl2.out HbV.out.size)
              clear c0 hx
              obtain ⟨⟨xA, xn, xc, xs⟩, N⟩ := x
              have hgo : (m : Int) < n2 := by omega
              try simp only at d0
              have X1 : Hid (xs.length = xn) := Lib.hid Hxr.out.hd.len
              have X2 : Hid (SlG wq xA 3 rdV xs) := Lib.hid (Sl.slG Hxr.out.hd.sl)
              have hxn : xn ≤ 40 := by have h1 := Hx40.out; have h2 := X1.out; simp only at h1; omega
              have H0r : Hid (OwnV (wq.alloc (.cells #[] 39)) wq.heap.size (.slice (some ⟨wq.heap.size, 0, none⟩) 0 0) []) := Lib.hid (OwnG.made wq wq.heap.size _ #[] 0 (Nat.le_refl _) (Nat.zero_le _) rfl)
              go_wp2_with (at_builtin; go_must (
                refine wpList_appG vOk rfl (.tmp 47) (.tmp 52) rfl wq.heap.size _ [] xs xA xn xc rfl H0r.out rfl X1.out (X2.out.after (below_one _ _)) (by rw [X1.out]; simp [maxLen]; omega) (by rw [X1.out]; simp; omega) (by simp) ?_
                intro v1 w1 hv1 hg1
                have Hv1 := Lib.hid hv1
                have Hb1 := Lib.hid ((below_one wq (.cells #[] 39)).grown hg1 (by simp) (fun k hk => (H0r.out.lt k hk).1))
                clear hv1 hg1))
              have HQ1 := Lib.hid (HQr.out.below Hb1.out Hlr.out)
              have Hl1 := Lib.hid (Nat.lt_of_lt_of_le Hlr.out Hb1.out.size)
              have Hw1 := Lib.hid (below_via Hwr.out Hb1.out)
              have d1 := (Hb1.out.cell (p := ⟨b, off + m * 2, none⟩) l0).trans d0
              have l1 : b < w1.heap.size := Nat.lt_of_lt_of_le l0 Hb1.out.size
              have HS : Hid (∀ w' : World, Below w1.heap.size w1 w' → w'.cell? ⟨w.heap.size, 0, none⟩ = some (.string nm) ∧ w'.cell? ⟨w.heap.size, 1, none⟩ = some (.string fr) ∧ w'.cell? ⟨w.heap.size, 2, none⟩ = some (.string wt) ∧ w'.cell? ⟨w.heap.size, 3, none⟩ = some (.int .i64 o0) ∧ w'.cell? ⟨w.heap.size, 4, none⟩ = some (.int .i64 o1) ∧ w'.cell? ⟨w.heap.size, 5, none⟩ = some (.slice eA en ec) ∧ w'.cell? ⟨w.heap.size, 6, none⟩ = some (.slice pA pn pc) ∧ w'.cell? ⟨w.heap.size, 7, none⟩ = some (.bool true) ∧ w'.cell? ⟨w.heap.size, 8, none⟩ = some (.slice aA an ac) ∧ w'.cell? ⟨b, off + m * 2, none⟩ = some (.slice xA xn xc)) := Lib.hid fun w' h => by
                obtain ⟨q0, q1, q2, q3, q4, q5, q6, q7, q8⟩ := (HQ1.out.below h Hl1.out).allG
                exact ⟨q0, q1, q2, q3, q4, q5, q6, q7, q8, (h.cell l1).trans d1⟩
              have HC : Hid (Below w1.heap.size w1 w1) := Lib.hid (Below.refl _ _)
              obtain ⟨q0, q1, q2, q3, q4, q5, q6, q7, q8, q9⟩ := HS.out _ HC.out
              have lq := Hl1.out
              clear d0 d1 l0 H0r
              go_region_held3 (fun w' => w'.cell? ⟨w.heap.size, 0, none⟩ = some (.string nm) ∧ w'.cell? ⟨w.heap.size, 1, none⟩ = some (.string fr) ∧ w'.cell? ⟨w.heap.size, 2, none⟩ = some (.string wt) ∧ w'.cell? ⟨w.heap.size, 3, none⟩ = some (.int .i64 o0) ∧ w'.cell? ⟨w.heap.size, 4, none⟩ = some (.int .i64 o1) ∧ w'.cell? ⟨w.heap.size, 5, none⟩ = some (.slice eA en ec) ∧ w'.cell? ⟨w.heap.size, 6, none⟩ = some (.slice pA pn pc) ∧ w'.cell? ⟨w.heap.size, 7, none⟩ = some (.bool true) ∧ w'.cell? ⟨w.heap.size, 8, none⟩ = some (.slice aA an ac) ∧ w'.cell? ⟨b, off + m * 2, none⟩ = some (.slice xA xn xc)) (first | with_reducible exact HS.out _ HC.out | with_reducible exact HS.out _ HC.out.drew | go_keep)
                (first
                  | (go_at_call 35
                     refine (rin_c (⟨nm, fr, wt, o0, o1, eA, en, ec, ee, pA, pn, pc, ps, true, aA, an, ac⟩ : Vq) A xA n c xn xc cs xs _ ((HX.out.after Hw1.out).after (by first | with_reducible exact HC.out | with_reducible exact HC.out.drew)) ((HA.out.after Hw1.out).after (by first | with_reducible exact HC.out | with_reducible exact HC.out.drew)) (((Hxr.out.after Hb1.out).after (by first | with_reducible exact HC.out | with_reducible exact HC.out.drew)).hd) (by omega) (by show pn ≤ 100000; omega)).mono ?_
                     rintro en9 w3 ⟨A3, n3, c3, Rl, rfl, hb3, ho3, hl3, hm3, hn9, hp3⟩
                     replace HC : Hid (Below w1.heap.size w1 w3) := Lib.hid (by first | exact below_via HC.out hb3 | exact below_via HC.out (below_via (Below.refl _ _).drew hb3))
                     have HO3 : Hid (OwnG w3 w1.heap.size 49 2 rdC (.slice A3 n3 c3) Rl) := Lib.hid ho3
                     have HL3 := Lib.hid hl3
                     have HM3 := Lib.hid hm3
                     have HN3 := Lib.hid hn9
                     have HP3 : Hid (pl Rl = inB ps xs (pl cs)) := Lib.hid hp3
                     clear hb3 ho3 hl3 hm3 hn9 hp3))
              all_goals
                have Hb3 := Lib.hid (below_via Hb1.out HC.out)
                have Hv3 := Lib.hid (Hv1.out.after HC.out)
                have HAp : Hid (ApartZ (.slice A3 n3 c3) v1) := Lib.hid fun k hk h => by
                  have h1 := (HO3.out.lt k hk).1
                  have h2 := (Hv1.out.lt k h).2
                  omega
                clear q0 q1 q2 q3 q4 q5 q6 q7 q8 q9 lq l1 HS
                have HGR : Hid (refR (pl Rl) = 0) := Lib.hid (by rw [HP3.out]; exact refR_in ps xs H0.out)
                go_wp2_with fail
                go_loopw [10, 12] (fun v q wr => ∃ (i : Nat) (l : List Val), i ≤ an ∧ q = .int .i64 i ∧ Hid (Below wq.heap.size wq wr) ∧ Hid (OwnV wr wq.heap.size v l) ∧ Hid (OwnG wr w1.heap.size 49 2 rdC (.slice A3 n3 c3) Rl) ∧ Hid (ApartZ (.slice A3 n3 c3) v) ∧ Hid (l = xs ++ aggsV (pl Rl) (ags.take i)) ∧ Hid (aggsE (pl Rl) ags = aggsE (pl Rl) (ags.drop i))) (fun _ q _ => an - (intOf q).toNat)
                case atStart => exact ⟨0, _, Nat.zero_le _, rfl, Hb3, Hv3, HO3, HAp, Lib.hid (by rw [List.nil_append, List.take_zero]; exact (List.append_nil xs).symm), Lib.hid rfl⟩
                case round =>
                  obtain ⟨i, l, hi, rfl, hbi, hv, hO3, hap9, hl, hE⟩ := hrel
                  have HX9 := Lib.hid (below_via Hwr.out hbi.out)
                  have HQ9 := Lib.hid (HQr.out.below hbi.out Hlr.out)
                  have l9 : w.heap.size < wr.heap.size := Nat.lt_of_lt_of_le Hlr.out hbi.out.size
                  obtain ⟨p0, p1, p2, p3, p4, p5, p6, p7, p8⟩ := HQ9.out.allG
                  try simp only at p8
                  have Hll : Hid (l.length ≤ 80) := Lib.hid (by
                    have h1 := hl.out
                    have h2 := X1.out
                    have h3 : (aggsV (pl Rl) (ags.take i)).length ≤ an := by
                      unfold aggsV
                      rw [List.length_map, List.length_take]
                      have := HLn.out
                      omega
                    rw [h1, List.length_append, h2]
                    omega)
                  clear p0 p1 p2 p3 p4 p5 p6 p7
                  by_cases hil : i < an
                  · obtain ⟨ab, ao, a, rfl, hal, haa, g0, g1⟩ := (HL.out.after HX9.out).atA (k := i) (by rw [HLn.out]; exact hil)
                    have hio : (i : Int) < an := by omega
                    have Hst := Lib.hid (aggsE_take (b := pl Rl) haa)
                    have Hsv := Lib.hid (aggsV_take (b := pl Rl) haa)
                    clear haa
                    obtain ⟨fn, col⟩ := a
                    try simp only at g0 g1
                    have HRB : Hid (BgIn wr A3 n3 Rl) := Lib.hid (by
                      obtain ⟨A5, c5, hv5, hc5, hm5, hs5⟩ := hO3.out.sl cOk.len
                      have e3 := HL3.out
                      cases hv5
                      exact ⟨e3, by rw [← e3]; exact Nat.le_trans hc5 hm5, hs5, fun z hz => (HA.out.after HX9.out).each z (HM3.out z hz)⟩)
                    have hn39 : n3 ≤ 100000 := by have := HN3.out; omega
                    go_wp2_with fail
                    have hag := ragg_c A3 n3 c3 Rl fn col wr HRB.out hn39
                    have hst := Hst.out
                    have hsv := Hsv.out
                    try simp only at hst hsv
                    rw [show aggF fn col (pl Rl) = aggR fn col (pl Rl) by unfold aggF; rw [if_pos HGR.out]] at hag
                    obtain ⟨⟨y, er⟩, hR⟩ : ∃ R, aggR fn col (pl Rl) = R := ⟨_, rfl⟩
                    rw [hR] at hag hst hsv
                    have Hst2 := Lib.hid hst
                    have Hsv2 := Lib.hid hsv
                    have Hag := Lib.hid hag
                    clear hst hsv hR hag Hst Hsv g0 g1 p8 l9
                    refine Hag.out.mono ?_
                    rintro e5 w5 ⟨rfl, hb5⟩
                    have Hb5 := Lib.hid (hbi.out.trans (hb5.mono hbi.out.size))
                    have Hv5 := Lib.hid (hv.out.after hb5)
                    have HO5 := Lib.hid (hO3.out.after hb5)
                    clear hb5 Hag
                    dsimp only
                    by_cases he : er = 0
                    · have he1 : (er != 0) = false := by simp [he]
                      have HE2 : Hid (aggsE (pl Rl) ags = aggsE (pl Rl) (ags.drop (i + 1))) := Lib.hid (by rw [hE.out, Hst2.out, if_pos he])
                      have Hl2' : Hid (l ++ [y] = xs ++ aggsV (pl Rl) (ags.take (i + 1))) := Lib.hid (by rw [Hsv2.out, hl.out, List.append_assoc])
                      have hsz : wq.heap.size ≤ w5.heap.size := Hb5.out.size
                      clear he
                      go_wp2_with (at_builtin; go_must (
                        refine wpList_appL vOk rfl (.tmp 82) (.tmp 84) rfl wq.heap.size _ l [y] (some ⟨w5.heap.size + 1, 0, none⟩) 1 1 rfl ((Hv5.out.alloc _).alloc _) rfl rfl (SlG.newAt (by simp) vOk.len [y] rfl) (by have := Hll.out; simp [maxLen]; omega) (by have := Hll.out; simp; omega) (by simp; omega) ?_
                        intro v6 w6 hv6 hg6 hloc6
                        have Hv6 := Lib.hid hv6
                        have Hb6 := Lib.hid ((below_al (below_al Hb5.out _) _).grown hg6 (by simp; omega) (fun k hk => (Hv5.out.lt k hk).1))
                        have HO6 := Lib.hid (((HO5.out.alloc _).alloc _).keepZ hg6 hap9.out)
                        have HAp6 := Lib.hid (ApartZ.app ((HO5.out.alloc _).alloc _) hap9.out (Nat.le_refl _) hloc6)
                        clear hv6 hg6 hloc6))
                      go_roundw
                      case rel => exact ⟨i + 1, _, by omega, by go_num, Hb6, Hv6, HO6, HAp6, Hl2', HE2⟩
                      case measure => simp [intOf]; omega
                    · have he1 : (er != 0) = true := by simp [he]
                      have HF : Hid (GrpSaid w none 0 [] er R (w5.alloc (.cells #[.int .i64 y.k, .int .i64 y.n, .string y.s] 39))) := Lib.hid (by
                        have e1 : aggsE (inB ps xs (pl cs)) ags = er := by rw [← HP3.out, hE.out, Hst2.out, if_neg he]
                        have e2 : errG ps ags (pl cs) (pl os) = er := by
                          have h9 := Hek.out
                          try simp only at h9
                          rw [her.out, h9, e1, if_neg he]
                        have : R = ([], er) := by rw [HRe.out, e2, if_neg he]
                        subst this
                        exact ⟨below_al (below_via Hwr.out Hb5.out) _, bgIn_nil _, rfl, rfl⟩)
                      clear he
                      go_wp2_with fail
                      go_ret2
                      exact ⟨_, _, _, _, _, rfl, HF.out⟩
                  · obtain rfl : i = an := by omega
                    have hlx : l = xs ++ aggsV (pl Rl) ags := by rw [hl.out, List.take_of_length_le (by rw [HLn.out]; exact Nat.le_refl _)]
                    have hEx : aggsE (pl Rl) ags = 0 := by rw [hE.out, List.drop_eq_nil_of_le (by rw [HLn.out]; exact Nat.le_refl _)]; rfl
                    have HGk : Hid (GOk (pl Rl)) := Lib.hid (refR_ok HGR.out).2
                    have Hok : Hid (∀ v ∈ l, Okv v) := Lib.hid (fun v hv => by
                      rw [hlx] at hv
                      rcases List.mem_append.1 hv with h | h
                      · exact ⟨Hxr.out.sz v h, Hxr.out.n64 v h⟩
                      · obtain ⟨a, _, rfl⟩ := List.mem_map.1 h
                        refine okv_agg HGk.out (fun x hx v hv => ?_) _ _
                        obtain ⟨z, hz, rfl⟩ := List.mem_map.1 hx
                        have := HA.out.each z (HM3.out z hz)
                        exact ⟨this.sz v hv, this.n64 v hv⟩)
                    have Hlx := Lib.hid hlx
                    have Her3 : Hid (errG ps ags (pl cs) (pl os) = errG ps ags (pl cs) ((pl os).drop (m + 1))) := Lib.hid (by
                      have h9 := Hek.out
                      try simp only at h9
                      rw [her.out, h9, ← HP3.out, if_pos hEx])
                    obtain ⟨h9, rfl, hIn9, hxs9, hbl9, hnc9⟩ := hv.out.hd
                    have Hn9 : Hid (Ct.In wr ⟨h9, 1⟩) := Lib.hid ⟨hIn9, fun v hv => (Hok.out v (by rw [← hxs9]; exact hv)).1, fun v hv => (Hok.out v (by rw [← hxs9]; exact hv)).2, ⟨by show (-9223372036854775808 : Int) ≤ 1; decide, by show (1 : Int) ≤ 9223372036854775807; decide⟩, hnc9⟩
                    have Hxs9 := Lib.hid hxs9
                    have Hl9 : Hid (∀ b off, h9.A = some ⟨b, off, none⟩ → wq.heap.size ≤ b ∧ b < wr.heap.size) := Lib.hid hbl9
                    have HOr : Hid (∀ k, (Value.slice A' m c').ownBlock = some k → k < wq.heap.size) := Lib.hid fun k hk => (ho.out.lt k hk).2
                    have Ho9 := Lib.hid (ho.out.after hbi.out)
                    have Ha9 := Lib.hid (hap.out.after hbi.out)
                    have HB9 : Hid (Below ob W2 wr) := Lib.hid (hb.out.trans (hbi.out.mono hobr.out))
                    have hsz : wq.heap.size ≤ wr.heap.size := hbi.out.size
                    have hob2 := hobr.out
                    obtain ⟨h9A, h9n, h9c, h9xs⟩ := h9
                    dsimp only [Hd.v]
                    clear hIn9 hxs9 hbl9 hnc9 hlx hEx
                    go_wp2_with (at_builtin; go_must (
                       refine wpList_appL cOk rfl (.tmp 86) (.tmp 89) rfl ob (.slice A' m c') ol [⟨⟨h9A, h9n, h9c, h9xs⟩, 1⟩] (some ⟨wr.heap.size, 0, none⟩) 1 1 rfl (Ho9.out.after (below_one _ _)) rfl rfl (SlG.new cOk.len [⟨⟨h9A, h9n, h9c, h9xs⟩, 1⟩] rfl) (by rw [hol.out]; simp [maxLen]; omega) (by rw [hol.out]; simp; omega) (by simp; omega) ?_
                       intro v3 w2 hv hg hloc
                       obtain ⟨A4, c4, rfl⟩ := hv.isSlice
                       have HX2 := Lib.hid (below_one wr (.cells #[.slice h9A h9n h9c, .int .i64 1] 49))
                       have Hb2 := Lib.hid ((HB9.out.alloc (Nat.le_trans hob2 hsz) (.cells #[.slice h9A h9n h9c, .int .i64 1] 49)).grown hg (by simp; omega) (fun k hk => (Ho9.out.lt k hk).1))
                       have HA2 := Lib.hid (Ha9.out.app HX2.out hg hloc Hn9.out (fun b' off' hb' => ⟨fun e => by have h1 := (HOr.out b' e); have h2 := (Hl9.out b' off' hb').1; omega, (Hl9.out b' off' hb').2⟩) Ho9.out.plain)
                       have HLf : Hid ((ol ++ [(⟨⟨h9A, h9n, h9c, h9xs⟩, 1⟩ : Ct)]).length = m + 1) := Lib.hid (by rw [List.length_append, hol.out]; rfl)
                       have Hs2 : Hid (ob ≤ w2.heap.size) := Lib.hid (by have := hg.size; simp at this; omega)
                       rw [HLf.out] at hv ⊢
                       have Hv2 := Lib.hid hv
                       clear hv hg hloc HX2))
                    have Hst3 : Hid (pl (ol ++ [⟨⟨h9A, h9n, h9c, h9xs⟩, 1⟩]) = valG ps ags (pl cs) ((pl os).take (m + 1))) := Lib.hid (by
                      rw [Hvk.out, ← hst.out, pl_app, pl_one, ← HP3.out]
                      have e : h9xs = xs ++ aggsV (pl Rl) ags := Hxs9.out.trans Hlx.out
                      simp only [e])
                    go_roundw
                    case rel => exact ⟨m + 1, m + 1, A4, c4, _, by omega, rfl, by go_num, rfl, HLf, Hb2, Hs2, Hv2, HA2, Hst3, Her3⟩
                    case measure => simp [intOf]; omega
            · obtain rfl : m = n2 := by omega
              have HF : Hid (GrpSaid w A' m ol 0 R wq) := Lib.hid (by
                have h1 : (pl os).take m = pl os := List.take_of_length_le (by rw [pl_len, HB2.out.len]; exact Nat.le_refl _)
                have h2 : (pl os).drop m = [] := List.drop_eq_nil_of_le (by rw [pl_len, HB2.out.len]; exact Nat.le_refl _)
                have h3 := hst.out
                have h4 := her.out
                rw [h1] at h3
                rw [h2] at h4
                have : R = (valG ps ags (pl cs) (pl os), 0) := by rw [HRe.out, if_pos (show errG ps ags (pl cs) (pl os) = 0 from h4)]
                subst this
                obtain ⟨A5, c5, hv5, hc5, hm5, hs5⟩ := ho.out.sl cOk.len
                cases hv5
                exact ⟨Hwr.out, ⟨hol.out, by rw [← hol.out]; exact Nat.le_trans hc5 hm5, hs5, hap.out.each⟩, rfl, h3⟩)
              go_wp2_with fail
              go_ret2
              exact ⟨_, _, _, _, _, rfl, HF.out⟩
  · have hr1 : (r != 0) = true := by simp [h0]
    have HF : Hid (GrpSaid w none 0 [] r R W) := Lib.hid (by
      have : R = ([], r) := by rw [← HR.out]; unfold rowsF; rw [if_neg (by rw [Hr.out]; exact h0), Hr.out]
      subst this
      exact ⟨HbW.out, bgIn_nil _, rfl, rfl⟩)
    clear h0
    go_wp2_with fail
    go_ret2
    exact ⟨_, _, _, _, _, rfl, HF.out⟩
end Go.Proofs.YtldaoepemofhlaaGreatDoor

namespace Go.Proofs.YtldaoepemofhlaaGreatDoor
open Go Go.RowKit
set_option maxRecDepth 100000
attribute [local go_sem ↓] Go.wp_at_zero Go.wp_at_succ run_eqV run_neV

theorem small_lenZ {b : Bg} (h : smallB b = true) : b.length ≤ 60 := by
  unfold smallB at h
  rw [Bool.and_eq_true, decide_eq_true_eq] at h
  exact h.2
set_option maxHeartbeats 8000000 in
theorem tells_w (x : Vq) (ags : List (Int × Int)) (A : Option Addr) (n c : Nat) (cs : List Ct) (fn col : Int) (w : World) (hx : Vq.In w x) (hL : SlG w x.aA 2 rdA ags) (hLn : ags.length = x.an) (hA : BgIn w A n cs) (hG : Gl w) :
    Calls Tryz.prog 3 #[x.w, .slice A n c, .agg #[.int .i64 fn, .int .i64 col]] w fun e w' => e = .returned (.bool true) ∧ Below w.heap.size w w' := by
  have HA := Lib.hid hA
  have HGl := Lib.hid hG
  have HX := Lib.hid hx
  have HL := Lib.hid hL
  have HLn := Lib.hid hLn
  have HQ0 : Hid (Bq (w.alloc (.cells x.cells 28)) w.heap.size x) := Lib.hid (Bq.new w x)
  clear hA hG hx hL hLn
  obtain ⟨nm, fr, wt, o0, o1, eA, en, ec, ee, pA, pn, pc, ps, gr, aA, an, ac⟩ := x
  obtain ⟨V, hV⟩ : ∃ V, (w.alloc (.cells #[.string nm, .string fr, .string wt, .int .i64 o0, .int .i64 o1, .slice eA en ec, .slice pA pn pc, .bool gr, .slice aA an ac] 28)).alloc (.cells #[.int .i64 fn, .int .i64 col] 32) = V := ⟨_, rfl⟩
  have HQ : Hid (Bq V w.heap.size (⟨nm, fr, wt, o0, o1, eA, en, ec, ee, pA, pn, pc, ps, gr, aA, an, ac⟩ : Vq)) := Lib.hid (by rw [← hV]; exact HQ0.out.below (below_one _ _) (by simp [Vq.cells]))
  have HBa : Hid (Bf V (w.heap.size + 1) #[.int .i64 fn, .int .i64 col] 32) := Lib.hid (by
    rw [← hV]
    have h9 := Bf.new (w.alloc (.cells #[.string nm, .string fr, .string wt, .int .i64 o0, .int .i64 o1, .slice eA en ec, .slice pA pn pc, .bool gr, .slice aA an ac] 28)) #[.int .i64 fn, .int .i64 col] 32
    rw [show (w.alloc (.cells #[.string nm, .string fr, .string wt, .int .i64 o0, .int .i64 o1, .slice eA en ec, .slice pA pn pc, .bool gr, .slice aA an ac] 28)).heap.size = w.heap.size + 1 by simp] at h9
    exact h9)
  have HlV : Hid (w.heap.size < V.heap.size) := Lib.hid (by rw [← hV]; simp; omega)
  have HVb : Hid (Below w.heap.size w V) := Lib.hid (by rw [← hV]; exact below_two _ _ _)
  clear HQ0
  dsimp only [Vq.w]
  go_enter Tryz.func3, Tryz.ntmps3
  go_wp2_with fail
  clear hV
  refine (smallB_c A n c cs _ (HA.out.after HVb.out)).mono ?_
  rintro e w2 ⟨rfl, hb⟩
  have Hb := Lib.hid hb
  clear hb
  cases hsa : smallB (pl cs)
  · clear hsa
    go_wp2_with fail
    refine (gfixed_c _ ((HGl.out.after HVb.out).after Hb.out)).mono ?_
    rintro e wz ⟨rfl, hb⟩
    have HF := Lib.hid (below_via HVb.out (below_via Hb.out hb))
    clear hb Hb
    go_wp2_with fail
    go_ret
    exact ⟨rfl, HF.out⟩
  · have hn : n ≤ 60 := by have h1 := small_lenZ hsa; rw [pl_len, HA.out.len] at h1; exact h1
    clear hsa
    obtain ⟨p0, p1, p2, p3, p4, p5, p6, p7, p8⟩ := (HQ.out.below Hb.out HlV.out).allG
    try simp only at p0 p1 p2 p3 p4 p5 p6 p7 p8
    have lb : w.heap.size < w2.heap.size := Nat.lt_of_lt_of_le HlV.out Hb.out.size
    by_cases hp : pn ≤ 60
    · have hp1 : decide ((60 : Int) < pn) = false := decide_eq_false (by omega)
      by_cases ha : an ≤ 60
      · have ha1 : decide ((60 : Int) < an) = false := decide_eq_false (by omega)
        go_wp2_with fail
        refine (rowsG_c (⟨nm, fr, wt, o0, o1, eA, en, ec, ee, pA, pn, pc, ps, gr, aA, an, ac⟩ : Vq) ags A n c cs w2 ((HX.out.after HVb.out).after Hb.out) ((HL.out.after HVb.out).after Hb.out) HLn.out (.inl (by show an ≤ _; omega)) ((HA.out.after HVb.out).after Hb.out) (by omega) ((HGl.out.after HVb.out).after Hb.out)).mono ?_
        rintro e w3 ⟨A1, n1, c1, os, er, rfl, hS⟩
        replace Hb := Lib.hid (below_via Hb.out hS.below)
        have HB1 := Lib.hid hS.bag
        have HS1 : Hid (er = (rowsF ps gr ags (pl cs)).2 ∧ pl os = (rowsF ps gr ags (pl cs)).1) := Lib.hid ⟨hS.er2, hS.said⟩
        clear hS p0 p1 p2 p3 p4 p5 p6 p7 p8 lb
        obtain ⟨p0, p1, p2, p3, p4, p5, p6, p7, p8⟩ := (HQ.out.below Hb.out HlV.out).allG
        try simp only at p0 p1 p2 p3 p4 p5 p6 p7 p8
        have lb : w.heap.size < w3.heap.size := Nat.lt_of_lt_of_le HlV.out Hb.out.size
        go_wp2_with fail
        refine (rrows_c (⟨nm, fr, wt, o0, o1, eA, en, ec, ee, pA, pn, pc, ps, gr, aA, an, ac⟩ : Vq) ags A n c cs w3 ((HX.out.after HVb.out).after Hb.out) ((HL.out.after HVb.out).after Hb.out) HLn.out ha hp ((HA.out.after HVb.out).after Hb.out) hn).mono ?_
        rintro e w4 ⟨A2, n2, c2, os2, er2, rfl, hS⟩
        replace Hb := Lib.hid (below_via Hb.out hS.below)
        replace HB1 := Lib.hid (HB1.out.after hS.below)
        have HB2 := Lib.hid hS.bag
        have hee : er2 = er := by rw [hS.er2, HS1.out.1]
        have HS2 : Hid (pl os2 = pl os) := Lib.hid (by rw [hS.said, HS1.out.2])
        subst hee
        clear hS p0 p1 p2 p3 p4 p5 p6 p7 p8 lb HS1
        have hBa := HBa.out.after Hb.out HBa.out.lt
        have a0 := hBa.cell 0
        have a1 := hBa.cell 1
        have la := hBa.lt
        clear hBa
        go_wp2_with fail
        have hag := agg_c A n c cs fn col w4 ((HA.out.after HVb.out).after Hb.out) (by omega)
        obtain ⟨⟨P, g⟩, hP⟩ : ∃ R, aggF fn col (pl cs) = R := ⟨_, rfl⟩
        rw [hP] at hag
        have HvP := Lib.hid hP
        have Hag := Lib.hid hag
        clear hP hag
        refine Hag.out.mono ?_
        rintro e w5 ⟨rfl, hb⟩
        obtain ⟨U, hU⟩ : ∃ U, w5.alloc (.cells #[.int .i64 P.k, .int .i64 P.n, .string P.s] 39) = U := ⟨_, rfl⟩
        obtain ⟨pb, hpb⟩ : ∃ pb, w5.heap.size = pb := ⟨_, rfl⟩
        have HbU1 : Hid (Below w4.heap.size w4 U) := Lib.hid (by rw [← hU]; exact below_via hb (below_one _ _))
        have HpU : Hid (Bx U pb P) := Lib.hid (by rw [← hU, ← hpb]; exact Bx.new w5 P)
        replace Hb := Lib.hid (below_via Hb.out HbU1.out)
        replace HB1 := Lib.hid (HB1.out.after HbU1.out)
        replace HB2 := Lib.hid (HB2.out.after HbU1.out)
        clear hb Hag HbU1 a0 a1 la
        have hBa := HBa.out.after Hb.out HBa.out.lt
        have a0 := hBa.cell 0
        have a1 := hBa.cell 1
        have la := hBa.lt
        clear hBa
        go_wp2_with fail
        clear hU hpb
        have hag := ragg_c A n c cs fn col U ((HA.out.after HVb.out).after Hb.out) (by omega)
        rw [HvP.out] at hag
        have Hag := Lib.hid hag
        clear hag
        refine Hag.out.mono ?_
        rintro e w6 ⟨rfl, hb⟩
        obtain ⟨T, hT⟩ : ∃ T, w6.alloc (.cells #[.int .i64 P.k, .int .i64 P.n, .string P.s] 39) = T := ⟨_, rfl⟩
        obtain ⟨qb, hqb⟩ : ∃ qb, w6.heap.size = qb := ⟨_, rfl⟩
        have HbU1 : Hid (Below U.heap.size U T) := Lib.hid (by rw [← hT]; exact below_via hb (below_one _ _))
        have HqT : Hid (Bx T qb P) := Lib.hid (by rw [← hT, ← hqb]; exact Bx.new w6 P)
        replace Hb := Lib.hid (below_via Hb.out HbU1.out)
        replace HB1 := Lib.hid (HB1.out.after HbU1.out)
        replace HB2 := Lib.hid (HB2.out.after HbU1.out)
        replace HpU := Lib.hid (HpU.out.after HbU1.out)
        clear hb Hag HbU1 a0 a1 la
        go_wp2_with fail
        clear hT hqb
        refine (gfixed_c T ((HGl.out.after HVb.out).after Hb.out)).mono ?_
        rintro e w7 ⟨rfl, hb⟩
        replace Hb := Lib.hid (below_via Hb.out hb)
        replace HB1 := Lib.hid (HB1.out.after hb)
        replace HB2 := Lib.hid (HB2.out.after hb)
        replace HpU := Lib.hid (HpU.out.after hb)
        replace HqT := Lib.hid (HqT.out.after hb)
        clear hb
        go_wp2_with fail
        have hsm := sameB_c A1 A2 n1 n2 c1 c2 os os2 w7 HB1.out HB2.out
        rw [HS2.out, sameB_self] at hsm
        have Hsm := Lib.hid hsm
        clear hsm
        refine Hsm.out.mono ?_
        rintro e w8 ⟨rfl, hb⟩
        replace Hb := Lib.hid (below_via Hb.out hb)
        replace HpU := Lib.hid (HpU.out.after hb)
        replace HqT := Lib.hid (HqT.out.after hb)
        have HF := Lib.hid (below_via HVb.out Hb.out)
        clear hb Hsm
        have c0 := HpU.out.cell0
        have c1' := HpU.out.cell1
        have c2' := HpU.out.cell2
        have lp := HpU.out.lt
        have d0 := HqT.out.cell0
        have d1 := HqT.out.cell1
        have d2 := HqT.out.cell2
        have lq := HqT.out.lt
        have ss : (⟨P.k, P.n, P.s⟩ : Val).eq ⟨P.k, P.n, P.s⟩ = true := Val.eq_self _
        go_wp2_with fail
        go_ret
        exact ⟨rfl, HF.out⟩
      · have ha1 : decide ((60 : Int) < an) = true := decide_eq_true (by omega)
        go_wp2_with fail
        refine (gfixed_c _ ((HGl.out.after HVb.out).after Hb.out)).mono ?_
        rintro e wz ⟨rfl, hb⟩
        have HF := Lib.hid (below_via HVb.out (below_via Hb.out hb))
        clear hb Hb
        go_wp2_with fail
        go_ret
        exact ⟨rfl, HF.out⟩
    · have hp1 : decide ((60 : Int) < pn) = true := decide_eq_true (by omega)
      go_wp2_with fail
      refine (gfixed_c _ ((HGl.out.after HVb.out).after Hb.out)).mono ?_
      rintro e wz ⟨rfl, hb⟩
      have HF := Lib.hid (below_via HVb.out (below_via Hb.out hb))
      clear hb Hb
      go_wp2_with fail
      go_ret
      exact ⟨rfl, HF.out⟩
end Go.Proofs.YtldaoepemofhlaaGreatDoor
