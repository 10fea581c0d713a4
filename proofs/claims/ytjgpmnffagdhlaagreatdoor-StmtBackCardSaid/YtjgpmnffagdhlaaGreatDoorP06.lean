/-
  Part 6 of 7 of what the proof leans on: each part below says what it proves, and of what; no condition besides.
-/
import Derived.Test.YtjgpmnffagdhlaaGreatDoorP05
import Derived.Laws.OwnMore
import Derived.Lib.AppendZerosOnto
import Derived.Lib.SliceRun
set_option linter.unusedVariables false
set_option linter.unusedSimpArgs false
namespace Go.Proofs.YtjgpmnffagdhlaaGreatDoor
open Go Go.RowKit
set_option maxRecDepth 100000
def vsO : List Tk → Option (List Val)
  | [] => some []
  | t :: r => (vO t).bind fun v => (vsO r).map (v :: ·)
/-- What valuesOf tells. -/
structure VsSaid (o : Option (List Val)) (w : World) (v : Value) (w' : World) : Prop where
  be : Below w.heap.size w w'
  no : o = none → v = .tuple #[.slice none 0 0, .bool false]
  yes : ∀ vs, o = some vs → ∃ h : Sx Val, v = .tuple #[.slice h.A h.n h.c, .bool true] ∧ h.In w' 3 rdV ∧ h.xs = vs ∧ h.Lo w.heap.size
set_option maxHeartbeats 8000000 in
theorem valuesof_c (A : Option Addr) (n c : Nat) (ts : List Tk) (w : World) (hn : ts.length = n) (hm : n ≤ 20000) (hs : SlG w A 5 rdT ts) :
    Calls Tryz.prog 80 #[.slice A n c] w fun e w' => ∃ v, e = .returned v ∧ VsSaid (vsO ts) w v w' := by
  have Hn := Lib.hid hn
  have Hs := Lib.hid hs
  obtain ⟨O, hO⟩ : ∃ O, vsO ts = O := ⟨_, rfl⟩
  rw [hO]
  have HO := Lib.hid hO
  clear hn hs hO
  go_enter Tryz.func80, Tryz.ntmps80
  go_wp2_with fail
  go_loopw [11, 4] (fun i v wr => ∃ (q : Nat) (acc : List Val), q ≤ n ∧ i = .int .i64 q ∧ Hid (OwnG wr w.heap.size 59 3 rdV v acc) ∧ Hid (Below w.heap.size w wr) ∧ Hid ((vsO (ts.drop q)).map (acc ++ ·) = O) ∧ Hid (acc.length = q)) (fun i _ _ => n - (intOf i).toNat)
  case atStart => exact ⟨0, [], Nat.zero_le _, rfl, OwnG.nil _ _ _, Below.refl _ _, Lib.hid (by rw [← HO.out]; cases h : vsO ts <;> simp [h]), Lib.hid rfl⟩
  case round =>
    obtain ⟨q, acc, hq, rfl, ho, hb, hinv, hl⟩ := hrel
    have hsz := hb.out.size
    by_cases hlt : q < n
    · obtain ⟨b, off, x, rfl, hblt, hx, hc⟩ := Hs.out.atS (by rw [Hn.out]; exact hlt)
      have d0 := (hb.out.cell (p := ⟨b, off + q * 5, none⟩) hblt).trans (by have := hc 0 _ rfl; simpa using this)
      have d1 := (hb.out.cell (p := ⟨b, off + q * 5 + 1, none⟩) hblt).trans (hc 1 _ rfl)
      have d2 := (hb.out.cell (p := ⟨b, off + q * 5 + 2, none⟩) hblt).trans (hc 2 _ rfl)
      have d3 := (hb.out.cell (p := ⟨b, off + q * 5 + 3, none⟩) hblt).trans (hc 3 _ rfl)
      have d4 := (hb.out.cell (p := ⟨b, off + q * 5 + 4, none⟩) hblt).trans (hc 4 _ rfl)
      have l1 : b < wr.heap.size := Nat.lt_of_lt_of_le hblt hb.out.size
      have hst : ((vO x).bind fun v => (vsO (ts.drop (q + 1))).map (v :: ·)).map (acc ++ ·) = O := by
        rw [← hinv.out, drop_at hx]; rfl
      have Hst := Lib.hid hst
      have HV := Lib.hid (valueof_c x (wr.alloc (.cells #[.int .i64 x.k, .string x.t, .int .i64 x.v.k, .int .i64 x.v.n, .string x.v.s] 129)))
      clear hinv hx hc hblt hst
      go_wp2_with fail
      refine HV.out.mono ?_
      rintro e w2 ⟨rfl, hb2⟩
      have hb3 : Below wr.heap.size wr w2 := below_via (below_one wr _) hb2
      have Hb2 : Hid (Below w.heap.size w w2) := Lib.hid (hb.out.trans (hb3.mono hb.out.size))
      have Ho2 := Lib.hid (ho.out.after hb3)
      have hs2 := Hb2.out.size
      clear hb2 hb3 hb ho d0 d1 d2 d3 d4 HV l1
      cases hv : vO x with
      | none =>
        have hOn : O = none := by have := Hst.out; rw [hv] at this; exact this.symm
        subst hOn
        simp only [Option.getD_none, Option.isSome_none]
        clear Hst hv
        go_wp2
        go_ret2
        exact ⟨_, rfl, Hb2.out.alloc hs2 _, fun _ => rfl, fun vs h => (by cases h)⟩
      | some y =>
        have Hst2 : Hid ((vsO (ts.drop (q + 1))).map ((acc ++ [y]) ++ ·) = O) := Lib.hid (by
          have := Hst.out
          rw [hv] at this
          rw [← this]
          cases vsO (ts.drop (q + 1)) <;> simp)
        simp only [Option.getD_some, Option.isSome_some]
        have hal := hl.out
        clear Hst hv hl
        go_wp2_with (at_builtin; go_must (
          refine wpList_appG vOk rfl (.tmp 22) (.tmp 24) rfl w.heap.size _ acc [y] (some ⟨w2.heap.size + 1, 0, none⟩) 1 1 rfl ((Ho2.out.alloc _).alloc _) rfl rfl (SlG.newAt (rd := rdV) (S := 3) (by simp) (fun _ => rfl) [y] rfl) (by simp [maxLen]; omega) (by simp; omega) (by simp; omega) ?_
          intro v4 w4 hv4 hg4
          have HO4 := Lib.hid hv4
          have HB4 : Hid (Below w.heap.size w w4) := Lib.hid (((Hb2.out.alloc hs2 _).alloc (by simp; omega) _).grown hg4 (by simp; omega) (fun k hk => (Ho2.out.lt k hk).1))
          clear hv4 hg4))
        go_roundw
        case rel => exact ⟨q + 1, acc ++ [y], by omega, by go_num, HO4, HB4, Hst2, Lib.hid (by simp; omega)⟩
        case measure => simp [intOf]; omega
    · obtain rfl : q = n := by omega
      have hOs : O = some acc := by
        have := hinv.out
        rw [List.drop_eq_nil_of_le (by rw [Hn.out]; omega)] at this
        rw [← this]; simp [vsO]
      subst hOs
      obtain ⟨A', c', rfl, hin, hlo⟩ := ho.out.sx vOk.len
      have Hin := Lib.hid hin
      have Hlo := Lib.hid hlo
      clear hinv ho hin hlo
      go_wp2
      go_ret2
      exact ⟨_, rfl, hb.out, fun h => (by cases h), fun vs h => ⟨⟨A', acc.length, c', acc⟩, rfl, Hin.out, Option.some.inj h, fun k hk => (Hlo.out k hk).1⟩⟩
end Go.Proofs.YtjgpmnffagdhlaaGreatDoor
namespace Go.Proofs.YtjgpmnffagdhlaaGreatDoor
open Go Go.RowKit
set_option maxRecDepth 100000
/-- A value's token has no text. -/
def NoT (l : List Tk) : Prop := ∀ t ∈ l, t.k = 1 → t.t = emp
theorem gd_not {l : List Tk} (h : G l) : NoT l := by
  intro t ht hk
  exact (may_size t (h t ht).1 (by simp [hk])).2
theorem NoT.tail {t : Tk} {r : List Tk} (h : NoT (t :: r)) : NoT r := fun u hu => h u (List.mem_cons_of_mem _ hu)
/-- Where values have no text, a word is told by it. -/
theorem isW_text {t : Tk} (h : t.k = 1 → t.t = emp) {s : List UInt8} (hs : s ≠ []) : isW s t = decide (t.t = ba s) := by
  unfold isW
  rw [Bool.eq_iff_iff]
  simp only [Bool.and_eq_true, bne_iff_ne, ne_eq, beq_iff_eq, decide_eq_true_eq]
  constructor
  · rintro ⟨_, h2⟩; rw [← h2, ba_back]
  · intro e
    refine ⟨fun hk => ?_, by rw [e]⟩
    rw [h hk] at e
    exact hs (ba_inj (e.symm.trans rfl))
def doO (s : ByteArray) : Option Int := if s = ba w_get then some 0 else if s = ba w_scan then some 1 else if s = ba w_put then some 2 else if s = ba w_set then some 3 else if s = ba w_cut then some 4 else if s = ba w_look then some 5 else none
theorem do_one {t : Tk} (h : t.k = 1 → t.t = emp) : oneF stWs 0 t = doO t.t := by
  unfold stWs doO
  simp only [oneF, isW_text h (show w_get ≠ [] by decide), isW_text h (show w_scan ≠ [] by decide), isW_text h (show w_put ≠ [] by decide), isW_text h (show w_set ≠ [] by decide), isW_text h (show w_cut ≠ [] by decide), isW_text h (show w_look ≠ [] by decide), decide_eq_true_eq]
  rfl
theorem val_vO (t : Tk) (r : List Tk) : valP (t :: r) = (vO t).map fun v => (v, r) := by
  unfold valP vO isW
  by_cases hk : t.k = 1
  · rw [if_pos hk]; simp [hk]
  · have e : ∀ s : List UInt8, (t.t.data.toList == s) = decide (t.t = ba s) := fun s => by
      rw [Bool.eq_iff_iff]
      simp only [beq_iff_eq, decide_eq_true_eq]
      constructor
      · intro h; rw [← h, ba_back]
      · intro h; rw [h]
    rw [if_neg hk]
    simp only [e]
    have n1 : ba w_true ≠ ba w_null := fun h => by have := ba_inj h; revert this; decide
    have n2 : ba w_false ≠ ba w_null := fun h => by have := ba_inj h; revert this; decide
    by_cases h1 : t.t = ba w_true
    · simp [hk, h1, n1]
    · by_cases h2 : t.t = ba w_false
      · have n3 : ba w_false ≠ ba w_true := fun h => h1 (h2.trans h)
        simp [hk, h2, n2, n3]
      · by_cases h3 : t.t = ba w_null
        · simp [hk, h3, n1.symm, n2.symm]
        · simp [hk, h1, h2, h3]
theorem vals_vs : ∀ (l : List Tk) (n : Nat), l.length ≤ n → valsF n l = vsO l
  | [], 0, _ => rfl
  | [], _ + 1, _ => rfl
  | t :: r, 0, h => by simp at h
  | t :: r, n + 1, h => by
    rw [valsF, val_vO, vsO]
    cases vO t with
    | none => rfl
    | some v =>
      simp only [Option.map_some, Option.bind_some]
      rw [vals_vs r n (by simp at h; omega)]
/-- Items with commas between, one at least. -/
def evO : List Tk → Option (List Tk)
  | [] => none
  | [t] => some [t]
  | t :: c :: r => if isW s_cm c then (evO r).map (t :: ·) else none
def evenL : List Tk → List Tk
  | [] => []
  | [t] => [t]
  | t :: _ :: r => t :: evenL r
def oddB : List Tk → Bool
  | [] => true
  | [_] => true
  | _ :: c :: r => isW s_cm c && oddB r
theorem evO_eq : ∀ l : List Tk, evO l = if oddB l = true ∧ l.length % 2 = 1 then some (evenL l) else none
  | [] => rfl
  | [t] => rfl
  | t :: c :: r => by
    have ih := evO_eq r
    unfold evO oddB evenL
    rw [ih]
    have hl : (t :: c :: r).length % 2 = r.length % 2 := by simp only [List.length_cons]; omega
    rw [hl]
    cases isW s_cm c <;> cases oddB r <;> by_cases h : r.length % 2 = 1 <;> simp [h]
theorem evenL_snoc : ∀ (l : List Tk) (t : Tk), evenL (l ++ [t]) = if l.length % 2 = 0 then evenL l ++ [t] else evenL l
  | [], t => rfl
  | [a], t => rfl
  | a :: b :: r, t => by
    have ih := evenL_snoc r t
    have hl : (a :: b :: r).length % 2 = r.length % 2 := by simp only [List.length_cons]; omega
    rw [hl]
    show a :: evenL (r ++ [t]) = _
    rw [ih]
    split <;> rfl
theorem oddB_snoc : ∀ (l : List Tk) (t : Tk), oddB (l ++ [t]) = (oddB l && (decide (l.length % 2 = 0) || isW s_cm t))
  | [], t => rfl
  | [a], t => by simp [oddB]
  | a :: b :: r, t => by
    have ih := oddB_snoc r t
    have hl : (a :: b :: r).length % 2 = r.length % 2 := by simp only [List.length_cons]; omega
    rw [hl]
    show (isW s_cm b && oddB (r ++ [t])) = ((isW s_cm b && oddB r) && _)
    rw [ih, Bool.and_assoc]
/-- The items between brackets. -/
def midL (l : List Tk) : List Tk := (l.drop 1).take (l.length - 2)
def inO (l : List Tk) : Option (List Tk) :=
  if 2 ≤ l.length ∧ (∃ t, l[0]? = some t ∧ isW s_lp t = true) ∧ (∃ t, l[l.length - 1]? = some t ∧ isW s_rp t = true) ∧ oddB (midL l) = true ∧ (l.length = 2 ∨ (l.length - 1) % 2 = 0) then some (evenL (midL l)) else none
theorem vs_len : ∀ {l : List Tk} {vs : List Val}, vsO l = some vs → vs.length = l.length
  | [], vs, h => by rw [← Option.some.inj h]; rfl
  | t :: r, vs, h => by
    rw [vsO] at h
    cases hv : vO t with
    | none => rw [hv] at h; cases h
    | some v =>
      rw [hv, Option.bind_some] at h
      cases hr : vsO r with
      | none => rw [hr] at h; cases h
      | some us =>
        rw [hr] at h
        rw [← Option.some.inj h, List.length_cons, List.length_cons, vs_len hr]
theorem rp_val {p : Tk} (hp : isW s_rp p = true) : vO p = none := by
  unfold isW at hp
  simp only [Bool.and_eq_true, bne_iff_ne, ne_eq, beq_iff_eq] at hp
  have e : p.t = ba s_rp := by rw [← hp.2, ba_back]
  unfold vO
  rw [if_neg hp.1, e, if_neg (fun h => by have := ba_inj h; revert this; decide), if_neg (fun h => by have := ba_inj h; revert this; decide), if_neg (fun h => by have := ba_inj h; revert this; decide)]
theorem rp_cm {p : Tk} (hp : isW s_rp p = true) : isW s_cm p = false := by
  unfold isW at *
  simp only [Bool.and_eq_true, bne_iff_ne, ne_eq, beq_iff_eq] at hp
  rw [hp.2]; simp; intro _; decide
/-- Values with commas between, up to the last bracket. -/
theorem sep_ev {p : Tk} (hp : isW s_rp p = true) : ∀ (n : Nat) (m : List Tk), m.length < n → ∀ vs : List Val,
    ((∃ q, sepF valP n (m ++ [p]) = some (vs, q) ∧ needP s_rp q = some []) ↔ (evO m).bind vsO = some vs)
  | 0, m, h, _ => by omega
  | n + 1, [], h, vs => by
    have e : sepF valP (n + 1) ([] ++ [p]) = none := by
      show (valP [p]).bind _ = none
      rw [val_vO, rp_val hp]; rfl
    rw [e]
    constructor
    · rintro ⟨q, h1, _⟩; cases h1
    · intro h1; cases h1
  | n + 1, [t], h, vs => by
    have e : sepF valP (n + 1) ([t] ++ [p]) = (vO t).map fun v => ([v], [p]) := by
      show (valP [t, p]).bind _ = _
      rw [val_vO]
      cases vO t with
      | none => rfl
      | some v => simp [takeP, rp_cm hp]
    rw [e]
    show _ ↔ (vO t).bind (fun v => (vsO []).map (v :: ·)) = some vs
    cases vO t with
    | none => simp
    | some v =>
      simp only [Option.map_some, Option.bind_some, vsO, Option.some.injEq, Prod.mk.injEq]
      constructor
      · rintro ⟨q, ⟨rfl, rfl⟩, _⟩; rfl
      · rintro rfl; exact ⟨[p], ⟨rfl, rfl⟩, need_hit hp⟩
  | n + 1, t :: c :: r, h, vs => by
    have ih := sep_ev hp n r (by simp at h; omega)
    have e : sepF valP (n + 1) ((t :: c :: r) ++ [p]) = (vO t).bind fun v => if isW s_cm c then (sepF valP n (r ++ [p])).map (fun q => (v :: q.1, q.2)) else some ([v], c :: (r ++ [p])) := by
      show (valP (t :: (c :: (r ++ [p])))).bind _ = _
      rw [val_vO]
      cases vO t with
      | none => rfl
      | some v =>
        simp only [Option.map_some, Option.bind_some]
        cases hc : isW s_cm c <;> simp [takeP, hc]
    rw [e]
    show _ ↔ (if isW s_cm c then (evO r).map (t :: ·) else none).bind vsO = some vs
    cases hv : vO t with
    | none =>
      constructor
      · rintro ⟨q, h1, _⟩; cases h1
      · intro h1
        cases hc : isW s_cm c
        · rw [hc] at h1; cases h1
        · rw [hc, if_pos rfl] at h1
          cases hr : evO r with
          | none => rw [hr] at h1; cases h1
          | some z => rw [hr] at h1; simp [vsO, hv] at h1
    | some v =>
      simp only [Option.bind_some]
      cases hc : isW s_cm c
      · constructor
        · rintro ⟨q, h1, h2⟩
          simp only [Bool.false_eq_true, if_false, Option.some.injEq, Prod.mk.injEq] at h1
          rw [← h1.2] at h2
          rw [needP] at h2
          split at h2
          · have := Option.some.inj h2; simp at this
          · cases h2
        · intro h1; cases h1
      · simp only [if_true]
        constructor
        · rintro ⟨q, h1, h2⟩
          cases hs : sepF valP n (r ++ [p]) with
          | none => rw [hs] at h1; cases h1
          | some z =>
            rw [hs] at h1
            have h1 := Option.some.inj h1
            have hz := (ih z.1).1 ⟨z.2, hs, by rw [show z.2 = q from congrArg Prod.snd h1]; exact h2⟩
            cases hr : evO r with
            | none => rw [hr] at hz; cases hz
            | some y =>
              rw [hr] at hz
              simp only [Option.bind_some] at hz
              simp only [Option.map_some, Option.bind_some, vsO, hv, hz]
              rw [show v :: z.1 = vs from congrArg Prod.fst h1]
        · intro h1
          cases hr : evO r with
          | none => rw [hr] at h1; cases h1
          | some y =>
            rw [hr] at h1
            simp only [Option.map_some, Option.bind_some, vsO, hv] at h1
            cases hy : vsO y with
            | none => rw [hy] at h1; cases h1
            | some us =>
              rw [hy] at h1
              obtain ⟨q, h2, h3⟩ := (ih us).2 (by rw [hr]; exact hy)
              refine ⟨q, ?_, h3⟩
              rw [h2]
              have := Option.some.inj h1
              simp only [Option.map_some] at this ⊢
              rw [← this]
theorem sep_suf : ∀ (n : Nat) (l : List Tk) (vs : List Val) (q : List Tk), sepF valP n l = some (vs, q) → ∃ pre, l = pre ++ q
  | 0, l, vs, q, h => by cases h
  | n + 1, [], vs, q, h => by
    have e : sepF valP (n + 1) [] = none := rfl
    rw [e] at h; cases h
  | n + 1, t :: r, vs, q, h => by
    have e : sepF valP (n + 1) (t :: r) = (vO t).bind fun v => if (takeP s_cm r).1 then (sepF valP n (takeP s_cm r).2).map (fun q => (v :: q.1, q.2)) else some ([v], r) := by
      show (valP (t :: r)).bind _ = _
      rw [val_vO]
      cases vO t <;> rfl
    rw [e] at h
    cases hv : vO t with
    | none => rw [hv] at h; cases h
    | some v =>
      rw [hv, Option.bind_some] at h
      cases r with
      | nil =>
        have h5 : ([] : List Tk) = q := congrArg Prod.snd (Option.some.inj h)
        exact ⟨[t], by rw [← h5]; rfl⟩
      | cons c r =>
        cases hc : isW s_cm c
        · rw [take_miss hc] at h
          have h5 : c :: r = q := congrArg Prod.snd (Option.some.inj h)
          exact ⟨[t], by rw [← h5]; rfl⟩
        · rw [take_hit hc] at h
          simp only [if_true] at h
          cases hs : sepF valP n r with
          | none => rw [hs] at h; cases h
          | some z =>
            rw [hs] at h
            obtain ⟨pre, hp⟩ := sep_suf n r z.1 z.2 hs
            have := congrArg Prod.snd (Option.some.inj h)
            exact ⟨t :: c :: pre, by rw [hp]; rw [show z.2 = q from this]; rfl⟩
theorem need_one {s : List UInt8} {q : List Tk} (h : needP s q = some []) : ∃ t, q = [t] ∧ isW s t = true := by
  cases q with
  | nil => cases h
  | cons t r =>
    rw [needP] at h
    split at h
    · rename_i hw
      have := Option.some.inj h
      subst this
      exact ⟨t, rfl, hw⟩
    · cases h
theorem mid_app (t p : Tk) (m : List Tk) : midL (t :: (m ++ [p])) = m := by
  unfold midL
  simp
theorem last_app (t p : Tk) (m : List Tk) : (t :: (m ++ [p]))[(t :: (m ++ [p])).length - 1]? = some p := by
  simp
theorem inO_app (t p : Tk) (m : List Tk) (ht : isW s_lp t = true) (hp : isW s_rp p = true) : inO (t :: (m ++ [p])) = if m = [] then some [] else evO m := by
  unfold inO
  rw [mid_app, last_app, evO_eq]
  have e1 : (2 ≤ (t :: (m ++ [p])).length) = True := by simp
  have e2 : (∃ u, (t :: (m ++ [p]))[0]? = some u ∧ isW s_lp u = true) = True := by simp [ht]
  have e3 : (∃ u, some p = some u ∧ isW s_rp u = true) = True := by simp [hp]
  simp only [e1, e2, e3, true_and]
  have hl : (t :: (m ++ [p])).length = m.length + 2 := by simp
  rw [hl]
  cases m with
  | nil => simp [oddB, evenL]
  | cons a r =>
    have hne : ¬ (a :: r = []) := by simp
    rw [if_neg hne]
    have h1 : ((a :: r).length + 2 = 2 ∨ ((a :: r).length + 2 - 1) % 2 = 0) ↔ (a :: r).length % 2 = 1 := by
      simp only [List.length_cons]; omega
    simp only [h1]
/-- A row of the grammar is what the program takes apart, of 40 values at most. -/
theorem row_in (l : List Tk) (vs : List Val) : rowP l = some vs ↔ ((inO l).bind vsO = some vs ∧ vs.length ≤ 40) := by
  cases l with
  | nil => constructor
           · intro h; cases h
           · rintro ⟨h, _⟩; cases h
  | cons t r =>
    by_cases ht : isW s_lp t = true
    case neg =>
      have ht : isW s_lp t = false := by simpa using ht
      have e1 : rowP (t :: r) = none := by unfold rowP; simp [needP, ht]
      have e2 : inO (t :: r) = none := by unfold inO; rw [if_neg]; rintro ⟨_, ⟨u, h1, h2⟩, _⟩; simp at h1; rw [← h1, ht] at h2; cases h2
      rw [e1, e2]
      constructor
      · intro h; cases h
      · rintro ⟨h, _⟩; cases h
    have e0 : rowP (t :: r) = if (takeP s_rp r).1 then (if (takeP s_rp r).2.isEmpty then some [] else none) else (sepP valP r).bind fun p => (needP s_rp p.2).bind fun q => if q.isEmpty = true ∧ p.1.length ≤ 40 then some p.1 else none := by
      unfold rowP
      rw [need_hit ht]; rfl
    rcases List.eq_nil_or_concat r with rfl | ⟨m, p, rfl⟩
    · have e2 : inO [t] = none := by unfold inO; rw [if_neg]; rintro ⟨h, _⟩; simp at h
      rw [e0, e2]
      constructor
      · intro h; cases h
      · rintro ⟨h, _⟩; cases h
    · rw [List.concat_eq_append] at e0 ⊢
      by_cases hp : isW s_rp p = true
      · rw [inO_app t p m ht hp]
        cases m with
        | nil =>
          rw [e0]
          have e3 : takeP s_rp ([] ++ [p]) = (true, []) := take_hit hp
          rw [e3]
          simp only [if_true, List.isEmpty_nil, Option.bind_some, vsO, Option.some.injEq]
          constructor
          · rintro rfl; exact ⟨rfl, by simp⟩
          · rintro ⟨h, _⟩; exact h
        | cons a m =>
          rw [if_neg (by simp)]
          cases ha : isW s_rp a
          · have hne : takeP s_rp ((a :: m) ++ [p]) = (false, (a :: m) ++ [p]) := take_miss ha
            rw [e0, hne]
            simp only [Bool.false_eq_true, if_false]
            have hsv := sep_ev hp (((a :: m) ++ [p]).length + 1) (a :: m) (by simp)
            constructor
            · intro h
              unfold sepP at h
              cases hs : sepF valP (((a :: m) ++ [p]).length + 1) ((a :: m) ++ [p]) with
              | none => rw [hs] at h; cases h
              | some z =>
                rw [hs, Option.bind_some] at h
                cases hq : needP s_rp z.2 with
                | none => rw [hq] at h; cases h
                | some q =>
                  rw [hq, Option.bind_some] at h
                  split at h
                  · rename_i hc
                    have hz := Option.some.inj h
                    have hq0 : q = [] := List.isEmpty_iff.1 hc.1
                    rw [hq0] at hq
                    exact ⟨(hsv vs).1 ⟨z.2, by rw [hs, ← hz], hq⟩, by rw [← hz]; exact hc.2⟩
                  · cases h
            · rintro ⟨h, hl⟩
              obtain ⟨q, h1, h2⟩ := (hsv vs).2 h
              unfold sepP
              rw [h1, Option.bind_some, h2, Option.bind_some, if_pos ⟨rfl, hl⟩]
          · have hne : takeP s_rp ((a :: m) ++ [p]) = (true, m ++ [p]) := take_hit ha
            rw [e0, hne]
            constructor
            · intro h
              simp at h
            · rintro ⟨h, _⟩
              exfalso
              rw [evO_eq] at h
              split at h
              · simp only [Option.bind_some] at h
                cases m with
                | nil => simp [evenL, vsO, rp_val ha] at h
                | cons c m => simp [evenL, vsO, rp_val ha] at h
              · cases h
      · have hp2 : isW s_rp p = false := by simpa using hp
        have e2 : inO (t :: (m ++ [p])) = none := by
          unfold inO
          rw [if_neg]
          rintro ⟨_, _, ⟨u, h1, h2⟩, _⟩
          rw [last_app] at h1
          rw [← Option.some.inj h1] at h2
          exact hp h2
        rw [e0, e2]
        constructor
        · intro h
          exfalso
          split at h
          · rename_i hk
            cases m with
            | nil => rw [show ([] : List Tk) ++ [p] = [p] from rfl, take_miss hp2] at hk; cases hk
            | cons a m =>
              cases ha : isW s_rp a
              · rw [show (a :: m) ++ [p] = a :: (m ++ [p]) from rfl, take_miss ha] at hk; cases hk
              · rw [show (a :: m) ++ [p] = a :: (m ++ [p]) from rfl, take_hit ha] at h
                simp at h
          · unfold sepP at h
            cases hs : sepF valP ((m ++ [p]).length + 1) (m ++ [p]) with
            | none => rw [hs] at h; cases h
            | some z =>
              rw [hs, Option.bind_some] at h
              cases hq : needP s_rp z.2 with
              | none => rw [hq] at h; cases h
              | some q =>
                rw [hq, Option.bind_some] at h
                split at h
                · rename_i hc
                  have hq0 : q = [] := List.isEmpty_iff.1 hc.1
                  rw [hq0] at hq
                  obtain ⟨u, h1, h2⟩ := need_one hq
                  obtain ⟨pre, h3⟩ := sep_suf _ _ z.1 z.2 hs
                  rw [h1] at h3
                  have h4 := (List.append_inj' h3 rfl).2
                  have h5 : p = u := by injection h4
                  rw [h5] at hp
                  exact hp h2
                · cases h
        · rintro ⟨h, _⟩; cases h
/-- A statement as the program takes it apart. -/
def stmO : List Tk → Option St
  | t :: a :: r => (doO t.t).bind fun d => (if d = 2 ∨ d = 3 then inO r else some r).bind fun i => (vsO i).map fun vs => ⟨d, a.t, vs⟩
  | _ => none
theorem stmO_cons (t a : Tk) (r : List Tk) : stmO (t :: a :: r) = (doO t.t).bind fun d => (if d = 2 ∨ d = 3 then inO r else some r).bind fun i => (vsO i).map fun vs => (⟨d, a.t, vs⟩ : St) := rfl
theorem gd_name {t : Tk} (h : mayT t = true) (hn : nameB t.t.data.toList = true) : t.k = 0 := by
  obtain ⟨k, s, v⟩ := t
  unfold mayT at h
  simp only at h hn
  unfold nameB at hn
  simp only [Bool.and_eq_true] at hn
  have hw := hn.1
  split at h
  · rename_i hk; simpa using hk
  · exfalso
    split at h
    · simp only [Bool.and_eq_true] at h
      have he : s = emp := emp_of h.1
      rw [he] at hw
      revert hw; decide
    · split at h
      · simp only [Bool.and_eq_true] at h
        have hs := h.1
        unfold signB at hs
        split at hs
        · rename_i c e
          rw [e] at hw
          unfold wordB at hw
          simp only [Bool.and_eq_true, decide_eq_true_eq] at hw
          have := sgn_cls c (by simpa using hs)
          omega
        · cases hs
      · cases h
/-- The grammar's way is the program's: a statement that may be. -/
theorem parse_stm {l : List Tk} (hg : G l) (x : St) : parseS l = some x ↔ (stmO l = some x ∧ mayS x = true) := by
  constructor
  · intro h
    refine ⟨?_, (parse_accS h hg).1⟩
    unfold parseS at h
    cases l with
    | nil => cases h
    | cons t l =>
      have hd : oneP stWs (t :: l) = (doO t.t).map fun i => (i, l) := by
        show (oneF stWs 0 t).map _ = _
        rw [do_one (gd_not hg t (by simp))]
      rw [hd] at h
      cases hdo : doO t.t with
      | none => rw [hdo] at h; cases h
      | some d =>
        rw [hdo] at h
        simp only [Option.map_some, Option.bind_some] at h
        cases l with
        | nil => cases h
        | cons a r =>
          cases hn : nameP (a :: r) with
          | none => rw [hn] at h; cases h
          | some q =>
            rw [hn] at h
            simp only [Option.bind_some] at h
            have hq : q = (a.t, r) := by
              have hn2 : (if (a.k == 0 && nameB a.t.data.toList) = true then some (a.t, r) else none) = some q := hn
              split at hn2
              · exact (Option.some.inj hn2).symm
              · cases hn2
            rw [hq] at h
            simp only at h
            rw [stmO_cons, hdo, Option.bind_some]
            by_cases hk : d = 2 ∨ d = 3
            · rw [if_pos hk] at h ⊢
              cases hr : rowP r with
              | none => rw [hr] at h; cases h
              | some vs =>
                rw [hr] at h
                have h2 := ((row_in r vs).1 hr).1
                cases hi : inO r with
                | none => rw [hi] at h2; cases h2
                | some it =>
                  rw [hi, Option.bind_some] at h2
                  rw [Option.bind_some, h2]
                  exact h
            · rw [if_neg hk] at h ⊢
              split at h
              · rw [vals_vs r r.length (Nat.le_refl _)] at h
                exact h
              · cases h
  · rintro ⟨h, hm⟩
    match l, h, hg with
    | t :: a :: r, h, hg =>
      rw [stmO_cons] at h
      cases hdo : doO t.t with
      | none => rw [hdo] at h; cases h
      | some d =>
        rw [hdo, Option.bind_some] at h
        cases hi : (if d = 2 ∨ d = 3 then inO r else some r) with
        | none => rw [hi] at h; cases h
        | some it =>
          rw [hi, Option.bind_some] at h
          cases hv : vsO it with
          | none => rw [hv] at h; cases h
          | some vs =>
            rw [hv] at h
            have hx : x = ⟨d, a.t, vs⟩ := (Option.some.inj h).symm
            subst hx
            have hm2 := hm
            unfold mayS at hm2
            simp only [Bool.and_eq_true, decide_eq_true_eq] at hm2
            obtain ⟨m1, m2, m3, m4, m5⟩ := hm2
            have hak := gd_name (hg a (by simp)).1 m3
            have hn : nameP (a :: r) = some (a.t, r) := by unfold nameP; simp [hak, m3]
            unfold parseS
            have hd : oneP stWs (t :: a :: r) = some (d, a :: r) := by
              show (oneF stWs 0 t).map _ = _
              rw [do_one (gd_not hg t (by simp)), hdo]; rfl
            rw [hd]
            simp only [Option.bind_some]
            rw [hn]
            simp only [Option.bind_some]
            by_cases hk : d = 2 ∨ d = 3
            · rw [if_pos hk] at hi m5 ⊢
              simp only [decide_eq_true_eq] at m5
              rw [(row_in r vs).2 ⟨by rw [hi]; exact hv, m5⟩]; rfl
            · rw [if_neg hk] at hi m5 ⊢
              simp only [decide_eq_true_eq] at m5
              have hir : r = it := Option.some.inj hi
              rw [hir, if_pos (by rw [← vs_len hv]; exact m5), vals_vs it it.length (Nat.le_refl _), hv]; rfl
end Go.Proofs.YtjgpmnffagdhlaaGreatDoor
namespace Go.Proofs.YtjgpmnffagdhlaaGreatDoor
open Go Go.RowKit
set_option maxRecDepth 100000
/-- The program's table of the statements' words is as it was laid. -/
def StW (w : World) : Prop := ∀ i s, stWs[i]? = some s → w.cell? ⟨0, i, none⟩ = some (.string (ba s))
theorem StW.lt {w : World} (h : StW w) : 0 < w.heap.size := World.block_lt_of_cell? _ _ (h 0 w_get rfl)
theorem StW.below {w w' : World} {B : Nat} (h : StW w) (hb : Below B w w') (hB : 0 < B) : StW w' := fun i s hs => (hb.cell (p := ⟨0, i, none⟩) hB).trans (h i s hs)
theorem doO_none {s : ByteArray} (h : ∀ (j : Nat) (v : List UInt8), stWs[j]? = some v → s ≠ ba v) : doO s = none := by
  unfold doO
  rw [if_neg (h 0 _ rfl), if_neg (h 1 _ rfl), if_neg (h 2 _ rfl), if_neg (h 3 _ rfl), if_neg (h 4 _ rfl), if_neg (h 5 _ rfl)]
set_option maxHeartbeats 4000000 in
theorem doof_c (t : Tk) (w : World) (hW : StW w) :
    Calls Tryz.prog 78 #[t.val] w fun e w' => e = .returned (.tuple #[.int .i64 ((doO t.t).getD 0), .bool (doO t.t).isSome]) ∧ Below w.heap.size w w' := by
  obtain ⟨k, s, ⟨vk, vn, vs⟩⟩ := t
  obtain ⟨R, hR⟩ : ∃ R, doO s = R := ⟨_, rfl⟩
  simp only
  rw [hR]
  have HR := Lib.hid hR
  have hgl := hW.lt
  have g0 : w.cell? ⟨0, 0, none⟩ = some (.string ⟨#[103, 101, 116]⟩) := hW 0 w_get rfl
  have g1 : w.cell? ⟨0, 1, none⟩ = some (.string ⟨#[115, 99, 97, 110]⟩) := hW 1 w_scan rfl
  have g2 : w.cell? ⟨0, 2, none⟩ = some (.string ⟨#[112, 117, 116]⟩) := hW 2 w_put rfl
  have g3 : w.cell? ⟨0, 3, none⟩ = some (.string ⟨#[115, 101, 116]⟩) := hW 3 w_set rfl
  have g4 : w.cell? ⟨0, 4, none⟩ = some (.string ⟨#[99, 117, 116]⟩) := hW 4 w_cut rfl
  have g5 : w.cell? ⟨0, 5, none⟩ = some (.string ⟨#[108, 111, 111, 107]⟩) := hW 5 w_look rfl
  have Hb := Lib.hid (below_one w (.cells #[.int .i64 k, .string s, .int .i64 vk, .int .i64 vn, .string vs] 129))
  clear hR hW
  go_enter Tryz.func78, Tryz.ntmps78
  go_wp2_with fail
  clear g0 g1 g2 g3 g4 g5 hgl
  go_loopw [7] (fun i wr => ∃ q : Nat, q ≤ 6 ∧ i = .int .i64 q ∧ w.alloc (.cells #[.int .i64 k, .string s, .int .i64 vk, .int .i64 vn, .string vs] 129) = wr ∧ Hid (∀ j v, j < q → stWs[j]? = some v → s ≠ ba v)) (fun i _ => 6 - (intOf i).toNat)
  case atStart => exact ⟨0, by omega, rfl, rfl, Lib.hid (fun j v h => by omega)⟩
  case round =>
    obtain ⟨q, hq, rfl, hwr, hA⟩ := hrel
    have hc1 : wr.cell? ⟨w.heap.size, 1, none⟩ = some (.string s) := by rw [← hwr]; exact (Bk.new w _ _).cell 1
    have Hwr := Lib.hid hwr
    rw [hwr] at Hb
    clear hwr
    have hcs : q = 0 ∨ q = 1 ∨ q = 2 ∨ q = 3 ∨ q = 4 ∨ q = 5 ∨ q = 6 := by omega
    clear hq
    rcases hcs with rfl | rfl | rfl | rfl | rfl | rfl | rfl
    · have hix : ∀ u, (Instr.index 81 (.agg #[.string ⟨#[103, 101, 116]⟩, .string ⟨#[115, 99, 97, 110]⟩, .string ⟨#[112, 117, 116]⟩, .string ⟨#[115, 101, 116]⟩, .string ⟨#[99, 117, 116]⟩, .string ⟨#[108, 111, 111, 107]⟩]) (.int .i64 0)).run Tryz.prog u = .ok (.string ⟨#[103, 101, 116]⟩) u := fun u => by kernel_rfl
      by_cases hs : s = ba w_get
      · have hb : (s.toList == [103, 101, 116]) = true := by rw [toList_beq]; exact decide_eq_true hs
        obtain rfl : R = some 0 := by rw [← HR.out, hs]; kernel_rfl
        clear HR hA hs
        go_wp2
        go_ret2
        exact ⟨rfl, Hb.out⟩
      · have hb : (s.toList == [103, 101, 116]) = false := by rw [toList_beq]; exact decide_eq_false hs
        have HA2 : Hid (∀ j v, j < 1 → stWs[j]? = some v → s ≠ ba v) := Lib.hid (fun j v hj hv => by
          by_cases e : j = 0
          · subst e
            have : v = w_get := (Option.some.inj hv).symm
            rw [this]; exact hs
          · exact hA.out j v (by omega) hv)
        clear hA hs HR
        go_wp2
        go_roundw
        case rel => exact ⟨1, by omega, by go_num, Hwr.out, HA2⟩
        case measure => simp [intOf]
    · have hix : ∀ u, (Instr.index 81 (.agg #[.string ⟨#[103, 101, 116]⟩, .string ⟨#[115, 99, 97, 110]⟩, .string ⟨#[112, 117, 116]⟩, .string ⟨#[115, 101, 116]⟩, .string ⟨#[99, 117, 116]⟩, .string ⟨#[108, 111, 111, 107]⟩]) (.int .i64 1)).run Tryz.prog u = .ok (.string ⟨#[115, 99, 97, 110]⟩) u := fun u => by kernel_rfl
      by_cases hs : s = ba w_scan
      · have hb : (s.toList == [115, 99, 97, 110]) = true := by rw [toList_beq]; exact decide_eq_true hs
        obtain rfl : R = some 1 := by rw [← HR.out, hs]; kernel_rfl
        clear HR hA hs
        go_wp2
        go_ret2
        exact ⟨rfl, Hb.out⟩
      · have hb : (s.toList == [115, 99, 97, 110]) = false := by rw [toList_beq]; exact decide_eq_false hs
        have HA2 : Hid (∀ j v, j < 2 → stWs[j]? = some v → s ≠ ba v) := Lib.hid (fun j v hj hv => by
          by_cases e : j = 1
          · subst e
            have : v = w_scan := (Option.some.inj hv).symm
            rw [this]; exact hs
          · exact hA.out j v (by omega) hv)
        clear hA hs HR
        go_wp2
        go_roundw
        case rel => exact ⟨2, by omega, by go_num, Hwr.out, HA2⟩
        case measure => simp [intOf]
    · have hix : ∀ u, (Instr.index 81 (.agg #[.string ⟨#[103, 101, 116]⟩, .string ⟨#[115, 99, 97, 110]⟩, .string ⟨#[112, 117, 116]⟩, .string ⟨#[115, 101, 116]⟩, .string ⟨#[99, 117, 116]⟩, .string ⟨#[108, 111, 111, 107]⟩]) (.int .i64 2)).run Tryz.prog u = .ok (.string ⟨#[112, 117, 116]⟩) u := fun u => by kernel_rfl
      by_cases hs : s = ba w_put
      · have hb : (s.toList == [112, 117, 116]) = true := by rw [toList_beq]; exact decide_eq_true hs
        obtain rfl : R = some 2 := by rw [← HR.out, hs]; kernel_rfl
        clear HR hA hs
        go_wp2
        go_ret2
        exact ⟨rfl, Hb.out⟩
      · have hb : (s.toList == [112, 117, 116]) = false := by rw [toList_beq]; exact decide_eq_false hs
        have HA2 : Hid (∀ j v, j < 3 → stWs[j]? = some v → s ≠ ba v) := Lib.hid (fun j v hj hv => by
          by_cases e : j = 2
          · subst e
            have : v = w_put := (Option.some.inj hv).symm
            rw [this]; exact hs
          · exact hA.out j v (by omega) hv)
        clear hA hs HR
        go_wp2
        go_roundw
        case rel => exact ⟨3, by omega, by go_num, Hwr.out, HA2⟩
        case measure => simp [intOf]
    · have hix : ∀ u, (Instr.index 81 (.agg #[.string ⟨#[103, 101, 116]⟩, .string ⟨#[115, 99, 97, 110]⟩, .string ⟨#[112, 117, 116]⟩, .string ⟨#[115, 101, 116]⟩, .string ⟨#[99, 117, 116]⟩, .string ⟨#[108, 111, 111, 107]⟩]) (.int .i64 3)).run Tryz.prog u = .ok (.string ⟨#[115, 101, 116]⟩) u := fun u => by kernel_rfl
      by_cases hs : s = ba w_set
      · have hb : (s.toList == [115, 101, 116]) = true := by rw [toList_beq]; exact decide_eq_true hs
        obtain rfl : R = some 3 := by rw [← HR.out, hs]; kernel_rfl
        clear HR hA hs
        go_wp2
        go_ret2
        exact ⟨rfl, Hb.out⟩
      · have hb : (s.toList == [115, 101, 116]) = false := by rw [toList_beq]; exact decide_eq_false hs
        have HA2 : Hid (∀ j v, j < 4 → stWs[j]? = some v → s ≠ ba v) := Lib.hid (fun j v hj hv => by
          by_cases e : j = 3
          · subst e
            have : v = w_set := (Option.some.inj hv).symm
            rw [this]; exact hs
          · exact hA.out j v (by omega) hv)
        clear hA hs HR
        go_wp2
        go_roundw
        case rel => exact ⟨4, by omega, by go_num, Hwr.out, HA2⟩
        case measure => simp [intOf]
    · have hix : ∀ u, (Instr.index 81 (.agg #[.string ⟨#[103, 101, 116]⟩, .string ⟨#[115, 99, 97, 110]⟩, .string ⟨#[112, 117, 116]⟩, .string ⟨#[115, 101, 116]⟩, .string ⟨#[99, 117, 116]⟩, .string ⟨#[108, 111, 111, 107]⟩]) (.int .i64 4)).run Tryz.prog u = .ok (.string ⟨#[99, 117, 116]⟩) u := fun u => by kernel_rfl
      by_cases hs : s = ba w_cut
      · have hb : (s.toList == [99, 117, 116]) = true := by rw [toList_beq]; exact decide_eq_true hs
        obtain rfl : R = some 4 := by rw [← HR.out, hs]; kernel_rfl
        clear HR hA hs
        go_wp2
        go_ret2
        exact ⟨rfl, Hb.out⟩
      · have hb : (s.toList == [99, 117, 116]) = false := by rw [toList_beq]; exact decide_eq_false hs
        have HA2 : Hid (∀ j v, j < 5 → stWs[j]? = some v → s ≠ ba v) := Lib.hid (fun j v hj hv => by
          by_cases e : j = 4
          · subst e
            have : v = w_cut := (Option.some.inj hv).symm
            rw [this]; exact hs
          · exact hA.out j v (by omega) hv)
        clear hA hs HR
        go_wp2
        go_roundw
        case rel => exact ⟨5, by omega, by go_num, Hwr.out, HA2⟩
        case measure => simp [intOf]
    · have hix : ∀ u, (Instr.index 81 (.agg #[.string ⟨#[103, 101, 116]⟩, .string ⟨#[115, 99, 97, 110]⟩, .string ⟨#[112, 117, 116]⟩, .string ⟨#[115, 101, 116]⟩, .string ⟨#[99, 117, 116]⟩, .string ⟨#[108, 111, 111, 107]⟩]) (.int .i64 5)).run Tryz.prog u = .ok (.string ⟨#[108, 111, 111, 107]⟩) u := fun u => by kernel_rfl
      by_cases hs : s = ba w_look
      · have hb : (s.toList == [108, 111, 111, 107]) = true := by rw [toList_beq]; exact decide_eq_true hs
        obtain rfl : R = some 5 := by rw [← HR.out, hs]; kernel_rfl
        clear HR hA hs
        go_wp2
        go_ret2
        exact ⟨rfl, Hb.out⟩
      · have hb : (s.toList == [108, 111, 111, 107]) = false := by rw [toList_beq]; exact decide_eq_false hs
        have HA2 : Hid (∀ j v, j < 6 → stWs[j]? = some v → s ≠ ba v) := Lib.hid (fun j v hj hv => by
          by_cases e : j = 5
          · subst e
            have : v = w_look := (Option.some.inj hv).symm
            rw [this]; exact hs
          · exact hA.out j v (by omega) hv)
        clear hA hs HR
        go_wp2
        go_roundw
        case rel => exact ⟨6, by omega, by go_num, Hwr.out, HA2⟩
        case measure => simp [intOf]
    · have hn : R = none := by rw [← HR.out]; exact doO_none fun j v hv => hA.out j v (by have := (List.getElem?_eq_some_iff.1 hv).1; exact this) hv
      subst hn
      clear HR hA
      go_wp2
      go_ret2
      exact ⟨rfl, Hb.out⟩
end Go.Proofs.YtjgpmnffagdhlaaGreatDoor
namespace Go.Proofs.YtjgpmnffagdhlaaGreatDoor
open Go Go.RowKit
set_option maxRecDepth 100000
theorem elem_tok : Tryz.prog.elem 82 = 129 := by kernel_rfl
theorem under_tok : Tryz.prog.underlying 82 = some (.slice (Tryz.prog.elem 82)) := by rw [elem_tok]; exact Tryz.underlying82
theorem size_tok (w : World) : (sizeOf 129).run Tryz.prog w = .ok 5 w := by
  kernel_rfl
theorem slice_lh_tok (b off n c l h : Nat) (h1 : l ≤ h) (h2 : h ≤ c) (hne : c ≠ l) (w : World) :
    (Instr.slice 82 (.slice (some ⟨b, off, none⟩) n c) (some (.int .i64 l)) (some (.int .i64 h)) none).run Tryz.prog w = .ok (.slice (some ⟨b, off + l * 5, none⟩) (h - l) (c - l)) w := by
  rw [run_slice_lh w _ _ _ _ under_tok .i64 .i64 l h (by omega) (by omega) (by omega), elem_tok, size_tok]
  simp [Result.andThen, sliced, hne, Addr.add]
/-- What inRow tells. -/
structure InSaid (o : Option (List Tk)) (w : World) (v : Value) (w' : World) : Prop where
  be : Below w.heap.size w w'
  no : o = none → ∃ u, v = .tuple #[u, .bool false]
  yes : ∀ ts, o = some ts → ∃ h : Sx Tk, v = .tuple #[.slice h.A h.n h.c, .bool true] ∧ h.In w' 5 rdT ∧ h.n ≤ 20000 ∧ h.xs = ts
theorem inO_no {l : List Tk} (h : ¬ (2 ≤ l.length ∧ (∃ t, l[0]? = some t ∧ isW s_lp t = true) ∧ (∃ t, l[l.length - 1]? = some t ∧ isW s_rp t = true))) : inO l = none := by
  unfold inO
  rw [if_neg]
  rintro ⟨h1, h2, h3, _⟩
  exact h ⟨h1, h2, h3⟩
theorem odd_take {l : List Tk} {q : Nat} (h : oddB (l.take q) = false) : oddB l = false := by
  have gen : ∀ (m a : List Tk), oddB a = false → oddB (a ++ m) = false := by
    intro m
    induction m with
    | nil => intro a h; rw [List.append_nil]; exact h
    | cons t m ih =>
      intro a h
      have := ih (a ++ [t]) (by rw [oddB_snoc, h]; rfl)
      simpa using this
  have := gen (l.drop q) _ h
  rwa [List.take_append_drop] at this
theorem evenL_len : ∀ l : List Tk, (evenL l).length ≤ l.length
  | [] => Nat.le_refl _
  | [_] => Nat.le_refl _
  | _ :: _ :: r => by have := evenL_len r; simp only [evenL, List.length_cons]; omega
theorem mod_beq (q : Nat) : (((q : Int) % 2) == 0) = decide (q % 2 = 0) := by
  rw [Bool.eq_iff_iff]
  simp only [beq_iff_eq, decide_eq_true_eq]
  omega
set_option maxHeartbeats 16000000 in
theorem inrow_c (A : Option Addr) (n c : Nat) (l : List Tk) (w : World) (hn : l.length = n) (hm : n ≤ 20000) (hc : n ≤ c) (hs : SlG w A 5 rdT l) (hno : NoT l) :
    Calls Tryz.prog 79 #[.slice A n c] w fun e w' => ∃ v, e = .returned v ∧ InSaid (inO l) w v w' := by
  obtain ⟨O, hO⟩ : ∃ O, inO l = O := ⟨_, rfl⟩
  rw [hO]
  have HO := Lib.hid hO
  have Hn := Lib.hid hn
  clear hO
  by_cases h2 : 2 ≤ n
  case neg =>
    obtain rfl : O = none := by rw [← HO.out]; exact inO_no (fun h => h2 (by rw [← hn]; exact h.1))
    have hnn : n = 0 ∨ n = 1 := by omega
    clear HO hn Hn hs hno hc hm h2
    rcases hnn with rfl | rfl
    · go_enter Tryz.func79, Tryz.ntmps79
      go_wp2
      go_ret2
      exact ⟨_, rfl, Below.refl _ _, fun _ => ⟨_, rfl⟩, fun ts h => (by cases h)⟩
    · go_enter Tryz.func79, Tryz.ntmps79
      go_wp2
      go_ret2
      exact ⟨_, rfl, Below.refl _ _, fun _ => ⟨_, rfl⟩, fun ts h => (by cases h)⟩
  obtain ⟨L, rfl⟩ : ∃ L, n = L + 1 := ⟨n - 1, by omega⟩
  have hL1 : 1 ≤ L := by omega
  obtain ⟨b, off, t0, rfl, hblt, ht0, hcell0⟩ := hs.atS (k := 0) (by rw [hn]; omega)
  obtain ⟨b', off', tL, hA', _, htL, hcellL⟩ := hs.atS (k := L) (by rw [hn]; omega)
  injection hA' with hA'
  injection hA' with e1 e2 _
  subst e1
  subst e2
  have d0 : w.cell? ⟨b, off + 1, none⟩ = some (.string t0.t) := by have := hcell0 1 _ rfl; simpa using this
  have dL : w.cell? ⟨b, off + L * 5 + 1, none⟩ = some (.string tL.t) := hcellL 1 _ rfl
  have Hs := Lib.hid hs
  have Hno := Lib.hid hno
  have Ht0 := Lib.hid (And.intro ht0 (isW_text (hno t0 (List.mem_of_getElem? ht0)) (show s_lp ≠ [] by decide)))
  have HtL := Lib.hid (And.intro htL (isW_text (hno tL (List.mem_of_getElem? htL)) (show s_rp ≠ [] by decide)))
  clear hs hno ht0 htL hcell0 hcellL
  obtain ⟨s0, hs0⟩ : ∃ s, t0.t = s := ⟨_, rfl⟩
  obtain ⟨sL, hsL⟩ : ∃ s, tL.t = s := ⟨_, rfl⟩
  rw [hs0] at d0 Ht0
  rw [hsL] at dL HtL
  by_cases h0 : s0 = ba s_lp
  case neg =>
    have b0 : (s0.toList == [40]) = false := by rw [toList_beq]; exact decide_eq_false h0
    obtain rfl : O = none := by
      rw [← HO.out]
      refine inO_no fun ⟨_, ⟨t, g1, g2⟩, _⟩ => h0 ?_
      rw [Ht0.out.1] at g1
      rw [← Option.some.inj g1, Ht0.out.2] at g2
      exact of_decide_eq_true g2
    clear HO hn Hn Hs Hno Ht0 HtL h0 dL
    go_enter Tryz.func79, Tryz.ntmps79
    go_wp2
    go_ret2
    exact ⟨_, rfl, Below.refl _ _, fun _ => ⟨_, rfl⟩, fun ts h => (by cases h)⟩
  have b0 : (s0.toList == [40]) = true := by rw [toList_beq]; exact decide_eq_true h0
  by_cases hr : sL = ba s_rp
  case neg =>
    have bL : (sL.toList == [41]) = false := by rw [toList_beq]; exact decide_eq_false hr
    obtain rfl : O = none := by
      rw [← HO.out]
      refine inO_no fun ⟨_, _, ⟨t, g1, g2⟩⟩ => hr ?_
      rw [Hn.out, show L + 1 - 1 = L from rfl, HtL.out.1] at g1
      rw [← Option.some.inj g1, HtL.out.2] at g2
      exact of_decide_eq_true g2
    clear HO hn Hn Hs Hno Ht0 HtL h0 hr
    go_enter Tryz.func79, Tryz.ntmps79
    go_wp2
    go_ret2
    exact ⟨_, rfl, Below.refl _ _, fun _ => ⟨_, rfl⟩, fun ts h => (by cases h)⟩
  have bL : (sL.toList == [41]) = true := by rw [toList_beq]; exact decide_eq_true hr
  obtain ⟨M, hM⟩ : ∃ M, midL l = M := ⟨_, rfl⟩
  have hMl : M.length = L - 1 := by rw [← hM]; unfold midL; rw [List.length_take, List.length_drop, hn]; omega
  have HMat : Hid (∀ q t, M[q]? = some t → l[q + 1]? = some t) := Lib.hid (by
    intro q t h
    rw [← hM] at h
    unfold midL at h
    rw [List.getElem?_take] at h
    split at h
    · rw [List.getElem?_drop, Nat.add_comm] at h; exact h
    · cases h)
  have HO2 : Hid (O = if oddB M = true ∧ (L = 1 ∨ L % 2 = 0) then some (evenL M) else none) := Lib.hid (by
    rw [← HO.out]
    unfold inO
    rw [hM]
    have g1 : 2 ≤ l.length := by omega
    have g2 : ∃ t, l[0]? = some t ∧ isW s_lp t = true := ⟨t0, Ht0.out.1, by rw [Ht0.out.2]; exact decide_eq_true h0⟩
    have g3 : ∃ t, l[l.length - 1]? = some t ∧ isW s_rp t = true := ⟨tL, by rw [Hn.out]; exact HtL.out.1, by rw [HtL.out.2]; exact decide_eq_true hr⟩
    by_cases g : oddB M = true ∧ (L = 1 ∨ L % 2 = 0)
    · rw [if_pos ⟨g1, g2, g3, g.1, by rw [Hn.out]; omega⟩, if_pos g]
    · rw [if_neg (fun h => g ⟨h.2.2.2.1, by have := h.2.2.2.2; rw [Hn.out] at this; omega⟩), if_neg g])
  obtain ⟨N, hN⟩ : ∃ N, L = N + 1 := ⟨L - 1, by omega⟩
  have hsl : ∀ u, (Instr.slice 82 (.slice (some ⟨b, off, none⟩) (L + 1) c) (some (.int .i64 1)) (some (.int .i64 L)) none).run Tryz.prog u = .ok (.slice (some ⟨b, off + 5, none⟩) N (c - 1)) u := fun u => by
    have h := slice_lh_tok b off (L + 1) c 1 L hL1 (by omega) (by omega) u
    rw [show L - 1 = N by omega] at h
    exact h
  have HN := Lib.hid (And.intro hN (show M.length = N by omega))
  have HMt : Hid (∀ (q : Nat) (t : Tk), M[q]? = some t → t.k = 1 → t.t = emp) := Lib.hid (fun q t h => Hno.out t (List.mem_of_getElem? (HMat.out q t h)))
  have hNm : N ≤ 20000 := by omega
  have HLm := Lib.hid hNm
  have hd1 : decide ((L : Int) < 1) = false := decide_eq_false (by omega)
  clear HO hM hMl Ht0 HtL h0 hr hn hc hN h2
  go_enter Tryz.func79, Tryz.ntmps79
  go_wp2_with fail
  clear d0 dL b0 bL hsl hs0 hsL
  go_loopw [32, 5] (fun i v wr => ∃ q : Nat, q ≤ N ∧ i = .int .i64 q ∧ Hid (OwnG wr w.heap.size 129 5 rdT v (evenL (M.take q))) ∧ Hid (Below w.heap.size w wr) ∧ Hid (oddB (M.take q) = true)) (fun i _ _ => N - (intOf i).toNat)
  case atStart => exact ⟨0, Nat.zero_le _, rfl, OwnG.nil _ _ _, Below.refl _ _, Lib.hid rfl⟩
  case round =>
    obtain ⟨q, hq, rfl, ho, hb, hodd⟩ := hrel
    have hsz := hb.out.size
    by_cases hlt : q < N
    · have hx0 : M[q]? = some (M[q]'(by rw [HN.out.2]; exact hlt)) := List.getElem?_eq_getElem _
      obtain ⟨x, hx⟩ : ∃ x, M[q]? = some x := ⟨_, hx0⟩
      clear hx0
      obtain ⟨b', off', y, hA', hblt', hy, hc⟩ := Hs.out.atS (k := q + 1) (by rw [Hn.out, HN.out.1]; omega)
      injection hA' with hA'
      injection hA' with e1 e2 _
      subst e1
      subst e2
      obtain rfl : x = y := Option.some.inj ((HMat.out q x hx).symm.trans hy)
      have ea : off + (q + 1) * 5 = off + 5 + q * 5 := by omega
      rw [ea] at hc
      have e0 := (hb.out.cell (p := ⟨b, off + 5 + q * 5, none⟩) hblt).trans (by have := hc 0 _ rfl; simpa using this)
      have e1 := (hb.out.cell (p := ⟨b, off + 5 + q * 5 + 1, none⟩) hblt).trans (hc 1 _ rfl)
      have e2 := (hb.out.cell (p := ⟨b, off + 5 + q * 5 + 2, none⟩) hblt).trans (hc 2 _ rfl)
      have e3 := (hb.out.cell (p := ⟨b, off + 5 + q * 5 + 3, none⟩) hblt).trans (hc 3 _ rfl)
      have e4 := (hb.out.cell (p := ⟨b, off + 5 + q * 5 + 4, none⟩) hblt).trans (hc 4 _ rfl)
      have l1 : b < wr.heap.size := Nat.lt_of_lt_of_le hblt hb.out.size
      have htk : M.take (q + 1) = M.take q ++ [x] := by rw [List.take_add_one, hx]; rfl
      have htl : (M.take q).length = q := by rw [List.length_take, HN.out.2]; omega
      have HE : Hid (evenL (M.take (q + 1)) = if q % 2 = 0 then evenL (M.take q) ++ [x] else evenL (M.take q)) := Lib.hid (by rw [htk, evenL_snoc, htl])
      have HD : Hid (oddB (M.take (q + 1)) = (decide (q % 2 = 0) || decide (x.t = ba s_cm))) := Lib.hid (by rw [htk, oddB_snoc, htl, hodd.out, Bool.true_and, isW_text (HMt.out q x hx) (by decide)])
      have Hal : Hid ((evenL (M.take q)).length ≤ q) := Lib.hid (by have := evenL_len (M.take q); omega)
      clear htk htl hx hy hc ea hblt'
      have hm2 := mod_beq q
      by_cases hev : q % 2 = 0
      · rw [decide_eq_true hev] at hm2
        have HE2 : Hid (evenL (M.take (q + 1)) = evenL (M.take q) ++ [x]) := Lib.hid (by rw [HE.out, if_pos hev])
        have HD2 : Hid (oddB (M.take (q + 1)) = true) := Lib.hid (by rw [HD.out, decide_eq_true hev]; rfl)
        clear HE HD hev hodd
        go_wp2_with (at_builtin; go_must (
          refine wpList_appG tOk rfl (.tmp 40) (.tmp 42) rfl w.heap.size _ (evenL (M.take q)) [x] (some ⟨wr.heap.size + 1, 0, none⟩) 1 1 rfl ((ho.out.alloc _).alloc _) rfl rfl (SlG.newAt (rd := rdT) (S := 5) (by simp) (fun _ => rfl) [x] rfl) (by have := Hal.out; have := HLm.out; simp [maxLen]; omega) (by have := Hal.out; have := HLm.out; simp; omega) (by simp; omega) ?_
          intro v4 w4 hv4 hg4
          have HO4 : Hid (OwnG w4 w.heap.size 129 5 rdT v4 (evenL (M.take (q + 1)))) := Lib.hid (by rw [HE2.out]; exact hv4)
          have HB4 : Hid (Below w.heap.size w w4) := Lib.hid (((hb.out.alloc hsz _).alloc (by simp; omega) _).grown hg4 (by simp; omega) (fun k hk => (ho.out.lt k hk).1))
          clear hv4 hg4))
        go_roundw
        case rel => exact ⟨q + 1, by omega, by go_num, HO4, HB4, HD2⟩
        case measure => simp [intOf]; omega
      · rw [decide_eq_false hev] at hm2
        have HE2 : Hid (evenL (M.take (q + 1)) = evenL (M.take q)) := Lib.hid (by rw [HE.out, if_neg hev])
        have HD2 : Hid (oddB (M.take (q + 1)) = decide (x.t = ba s_cm)) := Lib.hid (by rw [HD.out, decide_eq_false hev]; rfl)
        have HB4 : Hid (Below w.heap.size w (wr.alloc (.cells #[.int .i64 x.k, .string x.t, .int .i64 x.v.k, .int .i64 x.v.n, .string x.v.s] 129))) := Lib.hid (hb.out.alloc hsz _)
        have HO4 : Hid (OwnG (wr.alloc (.cells #[.int .i64 x.k, .string x.t, .int .i64 x.v.k, .int .i64 x.v.n, .string x.v.s] 129)) w.heap.size 129 5 rdT _ (evenL (M.take (q + 1)))) := Lib.hid (by rw [HE2.out]; exact ho.out.alloc _)
        clear HE HD hev hodd ho hb
        obtain ⟨s, hs⟩ : ∃ s, x.t = s := ⟨_, rfl⟩
        rw [hs] at e1 HD2 HB4 HO4
        by_cases hcm : s = ba s_cm
        · have bc : (s.toList == [44]) = true := by rw [toList_beq]; exact decide_eq_true hcm
          have HD3 : Hid (oddB (M.take (q + 1)) = true) := Lib.hid (by rw [HD2.out]; exact decide_eq_true hcm)
          clear HD2 hcm
          go_wp2
          go_roundw
          case rel => exact ⟨q + 1, by omega, by go_num, HO4, HB4, HD3⟩
          case measure => simp [intOf]; omega
        · have bc : (s.toList == [44]) = false := by rw [toList_beq]; exact decide_eq_false hcm
          obtain rfl : O = none := by
            rw [HO2.out, if_neg]
            intro hh
            have := odd_take (q := q + 1) (l := M) (by rw [HD2.out]; exact decide_eq_false hcm)
            rw [this] at hh
            exact absurd hh.1 (by decide)
          clear HD2 hcm HO2
          go_wp2
          go_ret2
          exact ⟨_, rfl, HB4.out, fun _ => ⟨_, rfl⟩, fun ts h => (by cases h)⟩
    · obtain rfl : q = N := by omega
      have hMt : M.take q = M := List.take_of_length_le (by rw [HN.out.2]; exact Nat.le_refl _)
      rw [hMt] at ho hodd
      obtain ⟨A', c', rfl, hc1, hc2, hsl⟩ := ho.out.sl tOk.len
      have Hsl := Lib.hid hsl
      have Hc := Lib.hid (Nat.le_trans hc1 hc2)
      have hle := evenL_len M
      have Hle : Hid ((evenL M).length ≤ 20000) := Lib.hid (by have := HLm.out; have := HN.out.2; omega)
      by_cases hev : L = 1 ∨ L % 2 = 0
      · obtain rfl : O = some (evenL M) := by rw [HO2.out, if_pos ⟨hodd.out, hev⟩]
        by_cases h1 : L = 1
        · subst h1
          clear hodd ho hsl hc1 hc2 hle hev HO2 HN
          go_wp2
          go_ret2
          exact ⟨_, rfl, hb.out, fun h => (by cases h), fun ts h => ⟨⟨A', (evenL M).length, c', evenL M⟩, rfl, ⟨rfl, Hc.out, Hsl.out⟩, Hle.out, Option.some.inj h⟩⟩
        · have b1 : ((L : Int) == 1) = false := by rw [Bool.eq_false_iff]; simp; omega
          have hm2 := mod_beq L
          rw [decide_eq_true (by omega : L % 2 = 0)] at hm2
          clear hodd ho hsl hc1 hc2 hle hev HO2 HN h1
          go_wp2
          go_ret2
          exact ⟨_, rfl, hb.out, fun h => (by cases h), fun ts h => ⟨⟨A', (evenL M).length, c', evenL M⟩, rfl, ⟨rfl, Hc.out, Hsl.out⟩, Hle.out, Option.some.inj h⟩⟩
      · obtain rfl : O = none := by rw [HO2.out, if_neg (fun h => hev h.2)]
        have b1 : ((L : Int) == 1) = false := by rw [Bool.eq_false_iff]; simp; omega
        have hm2 := mod_beq L
        rw [decide_eq_false (by omega : ¬ L % 2 = 0)] at hm2
        clear hodd ho hsl hc1 hc2 hle hev HO2 HN
        go_wp2
        go_ret2
        exact ⟨_, rfl, hb.out, fun _ => ⟨_, rfl⟩, fun ts h => (by cases h)⟩
end Go.Proofs.YtjgpmnffagdhlaaGreatDoor
namespace Go.Proofs.YtjgpmnffagdhlaaGreatDoor
open Go Go.RowKit
set_option maxRecDepth 100000
/-- A slice that was built of its elements. -/
theorem OwnG.lit {α : Type} {rd : α → List Value} {S : Nat} {w : World} {B b : Nat} {E : TypeId} (xs : List α) {cs : Array Value} (hB : B ≤ w.heap.size) (hm : xs.length ≤ maxLen) (hl : ∀ x, (rd x).length = S) (h : cs = (xs.flatMap rd).toArray) (hb : b = w.heap.size) :
    OwnG (w.alloc (.cells cs E)) B E S rd (.slice (some ⟨b, 0, none⟩) xs.length xs.length) xs := by
  subst hb h
  have hs : (xs.flatMap rd).toArray.size = xs.length * S := by rw [List.size_toArray, flat_len hl]
  have := World.ownsRow_lit (base := B) (e := E) (size := S) w (xs.flatMap rd).toArray xs.length hB hm hs
  unfold OwnG
  simpa using this
set_option maxHeartbeats 2000000 in
theorem textsof_c (A : Option Addr) (n c : Nat) (xs : List Val) (w : World) (hn : xs.length = n) (hn1 : n ≤ 200) (hs : SlG w A 3 rdV xs) (hx64 : ∀ x ∈ xs, -9223372036854775808 ≤ x.n ∧ x.n ≤ 9223372036854775807) (hz : ∀ x ∈ xs, x.s.size ≤ 2000) (hG : Gl w) :
    Calls Tryz.prog 44 #[.slice A n c] w fun e w' => e = .returned (.slice (some ⟨w.heap.size, 0, none⟩) n n) ∧ Mk w' w.heap.size 1 n rdS (xs.map textL) ∧ Below w.heap.size w w' := by
  obtain ⟨cells, hcs, hmk⟩ := make_run sOk n (by omega) (by unfold maxLen; omega)
  have Hs := Lib.hid hs
  have Hn := Lib.hid hn
  have H6 := Lib.hid hx64
  have Hz := Lib.hid hz
  have HG := Lib.hid hG
  have Hcs := Lib.hid hcs
  clear hs hn hx64 hz hG hcs
  go_enter Tryz.func44, Tryz.ntmps44
  go_wp2_with fail
  have Hmk : Hid (Mk (w.alloc (.cells cells 9)) w.heap.size 1 n rdS []) := Mk.new w cells _ (by rw [Hcs.out])
  have Hb1 : Hid (Below w.heap.size w (w.alloc (.cells cells 9))) := below_one _ _
  clear hmk Hcs
  go_loopw [11] (fun i wr => ∃ k : Nat, k ≤ n ∧ i = .int .i64 k ∧ Hid (Below w.heap.size w wr) ∧ Hid (Mk wr w.heap.size 1 n rdS ((xs.take k).map textL))) (fun i _ => n - (intOf i).toNat)
  case atStart => exact ⟨0, Nat.zero_le _, rfl, Hb1, Hmk⟩
  case round =>
    obtain ⟨k, hk, rfl, hb, hM⟩ := hrel
    clear Hmk Hb1
    by_cases hlt : k < n
    · obtain ⟨b, off, x, rfl, hblt, hx, hc⟩ := Hs.out.atS (by rw [Hn.out]; exact hlt)
      have d0 := (hb.out.cell (p := ⟨b, off + k * 3, none⟩) hblt).trans (by have := hc 0 _ rfl; simpa using this)
      have d1 := (hb.out.cell (p := ⟨b, off + k * 3 + 1, none⟩) hblt).trans (hc 1 _ rfl)
      have d2 := (hb.out.cell (p := ⟨b, off + k * 3 + 2, none⟩) hblt).trans (hc 2 _ rfl)
      have l0 : b < wr.heap.size := Nat.lt_of_lt_of_le hblt hb.out.size
      have hmem := List.mem_of_getElem? hx
      have H6x := Lib.hid (H6.out x hmem)
      have Hzx := Lib.hid (Hz.out x hmem)
      have Hx := Lib.hid hx
      clear hc hx hmem hblt
      obtain ⟨vk, vn, vs⟩ := x
      simp only at *
      go_wp2_with fail
      have hb2 := hb.out.alloc hb.out.size (.cells #[.int .i64 vk, .int .i64 vn, .string vs] 59)
      refine (text_c ⟨vk, vn, vs⟩ _ H6x.out Hzx.out (HG.out.after hb2)).mono ?_
      rintro en w1 ⟨rfl, hb1⟩
      have hM1 := (hM.out.same (w' := wr.alloc (.cells #[.int .i64 vk, .int .i64 vn, .string vs] 59)) (by simp) (Below.heap_alloc _ _ _ hM.out.lt)).after hb1 (by have := hM.out.lt; simp; omega)
      have hb3 := hb2.trans (hb1.mono hb2.size)
      have hlen : ((xs.take k).map textL).length = k := by rw [List.length_map, List.length_take, Hn.out]; omega
      obtain ⟨u0, f0⟩ := hM1.all k (by omega)
      have z0 := hM1.thaw k
      have hset := hM1.set1 sOk.len (textL ⟨vk, vn, vs⟩) (.string ⟨(textL ⟨vk, vn, vs⟩).toArray⟩) rfl (by rw [hlen]; exact hlt)
      rw [hlen] at hset
      have e3 : (xs.take k).map textL ++ [textL ⟨vk, vn, vs⟩] = (xs.take (k + 1)).map textL := by
        rw [List.take_add_one, Hx.out]
        simp
      rw [e3] at hset
      have Hset := Lib.hid hset
      have Hb3 := Lib.hid (hb3.setCell (Nat.le_refl _) (p := ⟨w.heap.size, k, none⟩) (.string ⟨(textL ⟨vk, vn, vs⟩).toArray⟩))
      clear hb1 hb2 hb3 hM1 hlen hset e3 hb hM
      obtain ⟨T, hT⟩ : ∃ T, (⟨(textL ⟨vk, vn, vs⟩).toArray⟩ : ByteArray) = T := ⟨_, rfl⟩
      rw [hT] at Hset Hb3 ⊢
      go_wp2_with fail
      go_roundw
      case rel => exact ⟨k + 1, by omega, by go_num, Hb3, Hset⟩
      case measure => simp [intOf]; omega
    · obtain rfl : k = n := by omega
      have HM2 : Hid (Mk wr w.heap.size 1 k rdS (xs.map textL)) := Lib.hid (by
        have hM2 := hM.out
        rwa [show xs.take k = xs from List.take_of_length_le (by rw [Hn.out]; omega)] at hM2)
      clear hM
      go_wp2
      go_ret
      exact ⟨rfl, HM2.out, hb.out⟩
/-- Texts with commas between. -/
def comS : List (List UInt8) → List (List UInt8)
  | [] => []
  | a :: r => a :: (if r.isEmpty then [] else [44] :: comS r)
theorem comS_snoc : ∀ (l : List (List UInt8)) (x : List UInt8), comS (l ++ [x]) = if l = [] then [x] else comS l ++ [[44], x]
  | [], x => rfl
  | a :: r, x => by
    have ih := comS_snoc r x
    rw [if_neg (by simp)]
    show a :: (if (r ++ [x]).isEmpty then [] else [44] :: comS (r ++ [x])) = (a :: (if r.isEmpty then [] else [44] :: comS r)) ++ [[44], x]
    rw [ih]
    cases r with
    | nil => rfl
    | cons b s => simp
theorem comS_len : ∀ l : List (List UInt8), (comS l).length ≤ 2 * l.length
  | [] => Nat.le_refl _
  | a :: r => by
    have ih := comS_len r
    unfold comS
    split <;> simp <;> omega
def rowS (ts : List (List UInt8)) : List (List UInt8) := [40] :: (comS ts ++ [[41]])
set_option maxHeartbeats 4000000 in
theorem asrow_c (A : Option Addr) (n c : Nat) (ts : List (List UInt8)) (w : World) (hn : ts.length = n) (hn1 : n ≤ 200) (hs : SlG w A 1 rdS ts) :
    Calls Tryz.prog 46 #[.slice A n c] w fun e w' => ∃ v, e = .returned v ∧ OwnG w' w.heap.size 9 1 rdS v (rowS ts) ∧ Below w.heap.size w w' := by
  have Hs := Lib.hid hs
  have Hn := Lib.hid hn
  have HO0 : Hid (OwnG (w.alloc (.cells #[.string ⟨#[40]⟩] 9)) w.heap.size 9 1 rdS (.slice (some ⟨w.heap.size, 0, none⟩) 1 1) [[40]]) := Lib.hid (OwnG.lit [[40]] (Nat.le_refl _) (by unfold maxLen; simp) sOk.len rfl rfl)
  have HB0 := Lib.hid (below_one w (.cells #[.string ⟨#[40]⟩] 9))
  clear hs hn
  go_enter Tryz.func46, Tryz.ntmps46
  go_wp2_with fail
  go_loopw [9, 3] (fun i v wr => ∃ q : Nat, q ≤ n ∧ i = .int .i64 q ∧ Hid (OwnG wr w.heap.size 9 1 rdS v ([40] :: comS (ts.take q))) ∧ Hid (Below w.heap.size w wr)) (fun i _ _ => n - (intOf i).toNat)
  case atStart => exact ⟨0, Nat.zero_le _, rfl, HO0, HB0⟩
  case round =>
    obtain ⟨q, hq, rfl, ho, hb⟩ := hrel
    clear HO0 HB0
    have hsz := hb.out.size
    have Hcl : Hid ((comS (ts.take q)).length ≤ 400) := Lib.hid (by
      have := comS_len (ts.take q)
      rw [List.length_take] at this
      omega)
    by_cases hlt : q < n
    · obtain ⟨b, off, x, rfl, hblt, hx, hc⟩ := Hs.out.atS (by rw [Hn.out]; exact hlt)
      have d0 := (hb.out.cell (p := ⟨b, off + q, none⟩) hblt).trans (by have := hc 0 _ rfl; simpa using this)
      have l1 : b < wr.heap.size := Nat.lt_of_lt_of_le hblt hb.out.size
      have htk : ts.take (q + 1) = ts.take q ++ [x] := by rw [List.take_add_one, hx]; rfl
      have HE : Hid (comS (ts.take (q + 1)) = if ts.take q = [] then [x] else comS (ts.take q) ++ [[44], x]) := Lib.hid (by rw [htk, comS_snoc])
      have HTl : Hid ((ts.take q).length = q) := Lib.hid (by rw [List.length_take, Hn.out]; omega)
      obtain ⟨T, hT⟩ : ∃ T : ByteArray, (⟨x.toArray⟩ : ByteArray) = T := ⟨_, rfl⟩
      rw [hT] at d0
      have HT := Lib.hid hT
      clear hc hx htk hblt hT
      by_cases h0 : q = 0
      · subst h0
        rw [Nat.add_zero] at d0
        have HE2 : Hid (comS (ts.take (0 + 1)) = [x]) := HE
        have HO1 : Hid (OwnG wr w.heap.size 9 1 rdS _ [[40]]) := ho
        clear HE ho
        go_wp2_with (at_builtin; go_must (
          refine wpList_appG sOk rfl (.tmp 19) (.tmp 21) rfl w.heap.size _ [[40]] [x] (some ⟨wr.heap.size, 0, none⟩) 1 1 rfl (HO1.out.alloc _) rfl rfl (SlG.newAt (rd := rdS) (S := 1) rfl (fun _ => rfl) [x] (by rw [← HT.out]; rfl)) (by simp [maxLen]) (by simp) (by simp; omega) ?_
          intro v4 w4 hv4 hg4
          have HO4 : Hid (OwnG w4 w.heap.size 9 1 rdS v4 ([40] :: comS (ts.take (0 + 1)))) := Lib.hid (by rw [HE2.out]; exact hv4)
          have HB4 : Hid (Below w.heap.size w w4) := Lib.hid ((hb.out.alloc hsz _).grown hg4 (by simp; omega) (fun k hk => (HO1.out.lt k hk).1))
          clear hv4 hg4))
        go_roundw
        case rel => exact ⟨0 + 1, by omega, by go_num, HO4, HB4⟩
        case measure => simp [intOf]; omega
      · have HE2 : Hid (comS (ts.take (q + 1)) = comS (ts.take q) ++ [[44], x]) := Lib.hid (by
          rw [HE.out, if_neg]
          intro h
          have := HTl.out
          rw [h] at this
          exact h0 this.symm)
        have hpos : decide ((q : Int) > 0) = true := decide_eq_true (by omega)
        clear HE
        go_wp2_with (at_builtin; go_must (first
          | (refine wpList_appG sOk rfl (.tmp 16) (.tmp 17) rfl w.heap.size _ ([40] :: comS (ts.take q)) [[44]] (some ⟨wr.heap.size, 0, none⟩) 1 1 rfl (ho.out.alloc _) rfl rfl (SlG.newAt (rd := rdS) (S := 1) rfl (fun _ => rfl) [[44]] rfl) (by have := Hcl.out; simp [maxLen]; omega) (by have := Hcl.out; simp; omega) (by simp; omega) ?_
             intro v3 w3 hv3 hg3
             have HO3 := Lib.hid hv3
             have HB3 : Hid (Below w.heap.size w w3) := Lib.hid ((hb.out.alloc hsz _).grown hg3 (by simp; omega) (fun k hk => (ho.out.lt k hk).1))
             have hs3 := HB3.out.size
             clear hv3 hg3)
          | (refine wpList_appG sOk rfl (.tmp 19) (.tmp 21) rfl w.heap.size _ ([40] :: comS (ts.take q) ++ [[44]]) [x] (some ⟨w3.heap.size, 0, none⟩) 1 1 rfl (HO3.out.alloc _) rfl rfl (SlG.newAt (rd := rdS) (S := 1) rfl (fun _ => rfl) [x] (by rw [← HT.out]; rfl)) (by have := Hcl.out; simp [maxLen]; omega) (by have := Hcl.out; simp; omega) (by simp; omega) ?_
             intro v4 w4 hv4 hg4
             have HO4 : Hid (OwnG w4 w.heap.size 9 1 rdS v4 ([40] :: comS (ts.take (q + 1)))) := Lib.hid (by rw [HE2.out]; simpa using hv4)
             have HB4 : Hid (Below w.heap.size w w4) := Lib.hid ((HB3.out.alloc hs3 _).grown hg4 (by simp; omega) (fun k hk => (HO3.out.lt k hk).1))
             clear hv4 hg4)))
        go_roundw
        case rel => exact ⟨q + 1, by omega, by go_num, HO4, HB4⟩
        case measure => simp [intOf]; omega
    · obtain rfl : q = n := by omega
      have hMt : ts.take q = ts := List.take_of_length_le (by rw [Hn.out]; exact Nat.le_refl _)
      rw [hMt] at ho Hcl
      clear hMt
      go_wp2_with (at_builtin; go_must (
        refine wpList_appG sOk rfl (.tmp 24) (.tmp 25) rfl w.heap.size _ ([40] :: comS ts) [[41]] (some ⟨wr.heap.size, 0, none⟩) 1 1 rfl (ho.out.alloc _) rfl rfl (SlG.newAt (rd := rdS) (S := 1) rfl (fun _ => rfl) [[41]] rfl) (by have := Hcl.out; simp [maxLen]; omega) (by have := Hcl.out; simp; omega) (by simp; omega) ?_
        intro v4 w4 hv4 hg4
        have HO4 : Hid (OwnG w4 w.heap.size 9 1 rdS v4 (rowS ts)) := Lib.hid hv4
        have HB4 : Hid (Below w.heap.size w w4) := Lib.hid ((hb.out.alloc hsz _).grown hg4 (by simp; omega) (fun k hk => (ho.out.lt k hk).1))
        clear hv4 hg4))
      go_ret
      exact ⟨_, rfl, HO4.out, HB4.out⟩
end Go.Proofs.YtjgpmnffagdhlaaGreatDoor
namespace Go.Proofs.YtjgpmnffagdhlaaGreatDoor
open Go Go.RowKit
set_option maxRecDepth 100000
set_option maxHeartbeats 4000000 in
theorem growS_c (n : Nat) (w : World) (h0 : 0 < n) (h1 : n ≤ 1000) :
    Calls Tryz.prog 74 #[.slice none 0 0, .int .i64 n] w fun e w' => ∃ v, e = .returned v ∧ OwnG w' w.heap.size 9 1 rdS v [] ∧ Below w.heap.size w w' := by
  obtain ⟨i0, hi, hz0, hz1, hz2⟩ := sOk.parts
  have hrz : ∀ ty, (Builtin.append_ #[76, 3] ty #[.slice none 0 0, .int .i64 (n : Int)]).run Tryz.prog w =
      .ok (.slice (some ⟨w.heap.size, 0, none⟩) n (grownCap w n 0 9)) (w.drew.alloc (.cells (#[] ++ Builtin.zeroCells (Value.string ⟨#[]⟩).cells n ++ Builtin.zeroCells (Value.string ⟨#[]⟩).cells (grownCap w n 0 9 - n)) 9)) := fun ty => by
    have h := Lib.run_append_grow_zeros w 76 3 ty 9 i0 (Value.string ⟨#[]⟩) .i64 .i64 Tryz.underlying76 Tryz.underlying3 hi hz0 none 0 0 [] (run_firstCells_none w.drew i0.size 0 0 0) n h0 (by omega) (by omega) (by omega) (by rw [hz2]; omega)
      (by rw [hz2, Nat.zero_add]; unfold Builtin.nextslicecap; rw [if_pos (by omega)]; omega)
    rw [Nat.zero_add] at h
    exact h
  have hG1 : n ≤ grownCap w n 0 9 := grownCap_ge w _ _ _
  have hG2 : grownCap w n 0 9 ≤ maxLen := grownCap_le_maxLen w n 0 9 (by unfold maxLen; omega)
  obtain ⟨G, hG⟩ : ∃ G, grownCap w n 0 9 = G := ⟨_, rfl⟩
  rw [hG] at hrz hG1 hG2
  obtain ⟨cs, hcs⟩ : ∃ cs, #[] ++ Builtin.zeroCells (Value.string ⟨#[]⟩).cells n ++ Builtin.zeroCells (Value.string ⟨#[]⟩).cells (G - n) = cs := ⟨_, rfl⟩
  rw [hcs] at hrz
  have hsz : cs.size = G * 1 := by
    rw [← hcs]
    have e : ∀ k, (Builtin.zeroCells (Value.string ⟨#[]⟩).cells k).size = k := fun k => by
      rw [size_zeroCells]; exact Nat.mul_one k
    rw [Array.size_append, Array.size_append, e, e]
    simp
    omega
  have HO : Hid (OwnG (w.drew.alloc (.cells cs 9)) w.heap.size 9 1 rdS (.slice (some ⟨w.heap.size, 0, none⟩) 0 G) []) := Lib.hid (OwnG.made w.drew w.heap.size 9 cs G (Nat.le_refl _) hG2 hsz)
  have HB : Hid (Below w.heap.size w (w.drew.alloc (.cells cs 9))) := Lib.hid ((Below.refl _ _).drew.alloc (Nat.le_refl _) _)
  have hG3 : G ≤ 9223372036854775807 := by unfold maxLen at hG2; omega
  have hnn : decide ((n : Int) < 0) = false := decide_eq_false (by omega)
  have hnp : decide ((n : Int) > 0) = true := decide_eq_true (by omega)
  clear hG hcs hsz hG2 hi hz0 hz1 hz2
  go_enter Tryz.func74, Tryz.ntmps74
  go_wp2_with (at_builtin; refine Lib.wpList_append_run _ rfl _ _ _ _ rfl _ _ rfl rfl _ _ (hrz _) ?_)
  go_ret
  exact ⟨_, rfl, HO.out, HB.out⟩
/-- A list of texts that lies somewhere, as an element of a list. -/
def rdSx (h : Sx (List UInt8)) : List Value := [.slice h.A h.n h.c]
/-- All texts of the lists. -/
def allT (ls : List (Sx (List UInt8))) : List (List UInt8) := ls.flatMap fun h => h.xs
theorem flat_snoc {ls : List (Sx (List UInt8))} {q : Nat} {x : Sx (List UInt8)} (hx : ls[q]? = some x) : allT (ls.take (q + 1)) = allT (ls.take q) ++ x.xs := by
  unfold allT
  rw [List.take_add_one, hx]; simp
theorem flat_le (ls : List (Sx (List UInt8))) (q : Nat) : (allT (ls.take q)).length ≤ (allT ls).length := by
  unfold allT
  conv => rhs; rw [← List.take_append_drop q ls, List.flatMap_append, List.length_append]
  omega
set_option maxHeartbeats 8000000 in
theorem concat_c (b m : Nat) (ls : List (Sx (List UInt8))) (w : World) (hm : ls.length = m) (hm1 : m ≤ 100) (hs : SlG w (some ⟨b, 0, none⟩) 1 rdSx ls) (hi : ∀ h ∈ ls, h.In w 1 rdS) (h0 : 0 < (allT ls).length) (h1 : (allT ls).length ≤ 1000) :
    Calls Tryz.prog 48 #[.slice (some ⟨b, 0, none⟩) m m] w fun e w' => ∃ v, e = .returned v ∧ OwnG w' w.heap.size 9 1 rdS v (allT ls) ∧ Below w.heap.size w w' := by
  have Hs := Lib.hid hs
  have Hm := Lib.hid hm
  have Hi := Lib.hid hi
  obtain ⟨N, hN⟩ : ∃ N, (allT ls).length = N := ⟨_, rfl⟩
  have HN := Lib.hid hN
  have HN1 := Lib.hid (show 0 < N ∧ N ≤ 1000 by omega)
  clear hs hm hi h0 h1 hN
  go_enter Tryz.func48, Tryz.ntmps48
  go_wp2_with fail
  go_loopw [11, 3] (fun i z wr => ∃ q : Nat, q ≤ m ∧ i = .int .i64 q ∧ z = .int .i64 (allT (ls.take q)).length ∧ w = wr) (fun i _ _ => m - (intOf i).toNat)
  case atStart => exact ⟨0, Nat.zero_le _, rfl, rfl, rfl⟩
  case round =>
    obtain ⟨q, hq, rfl, rfl, hw⟩ := hrel
    by_cases hlt : q < m
    · obtain ⟨b', off, x, hA, hblt, hx, hc⟩ := Hs.out.atS (by rw [Hm.out]; exact hlt)
      injection hA with hA
      injection hA with e1 e2 _
      subst e1
      subst e2
      have d0 := hc 0 _ rfl
      have l1 := hblt
      have HX := Lib.hid (Hi.out x (List.mem_of_getElem? hx))
      have HE : Hid ((allT (ls.take (q + 1))).length = (allT (ls.take q)).length + x.n) := Lib.hid (by rw [flat_snoc hx, List.length_append, HX.out.len])
      have hle : (allT (ls.take (q + 1))).length ≤ 1000 := by have := flat_le ls (q + 1); have := HN.out; have := HN1.out.2; omega
      rw [HE.out] at hle
      obtain ⟨a, ha⟩ : ∃ a, (allT (ls.take q)).length = a := ⟨_, rfl⟩
      rw [ha] at HE hle ⊢
      obtain ⟨A, n, c, xs⟩ := x
      have hle2 : a + n ≤ 1000 := hle
      have HE2 : Hid ((allT (ls.take (q + 1))).length = a + n) := HE
      have hneg : decide (((a : Int) + (n : Int)) < 0) = false := decide_eq_false (by omega)
      rw [hw] at d0 l1
      rw [Nat.zero_add, Nat.mul_one, Nat.add_zero] at d0
      clear hc hx HX HE hle ha hblt
      go_wp2
      go_roundw
      case rel => exact ⟨q + 1, by omega, by go_num, by rw [HE2.out]; go_num, hw⟩
      case measure => simp [intOf]; omega
    · obtain rfl : q = m := by omega
      rw [show ls.take q = ls from List.take_of_length_le (by rw [Hm.out]; exact Nat.le_refl _), HN.out]
      subst hw
      have HG := Lib.hid (growS_c N w HN1.out.1 HN1.out.2)
      clear hlt
      go_wp2_with fail
      refine HG.out.mono ?_
      rintro e w1 ⟨v1, rfl, ho1, hb1⟩
      have Ho1 := Lib.hid ho1
      have Hb1 := Lib.hid hb1
      clear ho1 hb1 HG
      go_wp2_with fail
      go_loopw [27, 6] (fun i v wr => ∃ p : Nat, p ≤ q ∧ i = .int .i64 p ∧ Hid (OwnG wr w.heap.size 9 1 rdS v (allT (ls.take p))) ∧ Hid (Below w.heap.size w wr)) (fun i _ _ => q - (intOf i).toNat)
      case atStart => exact ⟨0, Nat.zero_le _, rfl, Ho1, Hb1⟩
      case round =>
        obtain ⟨p, hp, rfl, ho, hb⟩ := hrel
        have hsz := hb.out.size
        by_cases hlt : p < q
        · obtain ⟨b', off, x, hA, hblt, hx, hc⟩ := Hs.out.atS (by rw [Hm.out]; exact hlt)
          injection hA with hA
          injection hA with e1 e2 _
          subst e1
          subst e2
          have d0 := (hb.out.cell (p := ⟨b, p, none⟩) hblt).trans (by have := hc 0 _ rfl; simpa using this)
          have l1 : b < wr.heap.size := Nat.lt_of_lt_of_le hblt hsz
          have HX := Lib.hid ((Hi.out x (List.mem_of_getElem? hx)).after hb.out)
          have HE : Hid (allT (ls.take (p + 1)) = allT (ls.take p) ++ x.xs) := Lib.hid (flat_snoc hx)
          have Hle : Hid ((allT (ls.take p)).length + x.xs.length ≤ 1000) := Lib.hid (by
            have := flat_le ls (p + 1)
            rw [HE.out, List.length_append] at this
            have := HN.out
            have := HN1.out.2
            omega)
          obtain ⟨A, n, c, xs⟩ := x
          clear hc hx hblt
          go_wp2_with (at_builtin; go_must (
            refine wpList_appG sOk rfl (.tmp 31) (.tmp 32) rfl w.heap.size _ (allT (ls.take p)) xs A n c rfl ho.out rfl HX.out.len HX.out.sl (by have := Hle.out; simp only at this; unfold maxLen; omega) (by have := Hle.out; simp only at this; omega) hsz ?_
            intro v4 w4 hv4 hg4
            have HO4 : Hid (OwnG w4 w.heap.size 9 1 rdS v4 (allT (ls.take (p + 1)))) := Lib.hid (by rw [HE.out]; exact hv4)
            have HB4 : Hid (Below w.heap.size w w4) := Lib.hid (hb.out.grown hg4 hsz (fun k hk => (ho.out.lt k hk).1))
            clear hv4 hg4))
          go_roundw
          case rel => exact ⟨p + 1, by omega, by go_num, HO4, HB4⟩
          case measure => simp [intOf]; omega
        · obtain rfl : p = q := by omega
          have hall : ls.take p = ls := List.take_of_length_le (by rw [Hm.out]; exact Nat.le_refl _)
          rw [hall] at ho
          clear hall
          go_wp2
          go_ret
          exact ⟨_, rfl, ho.out, hb.out⟩
/-- strings.Join of texts that lie somewhere, one at least. -/
theorem joinS_c (A : Option Addr) (n c : Nat) (l : List (List UInt8)) (w : World) (hs : SlG w A 1 rdS l) (hn : l.length = n) (h0 : 0 < n) (hc : n ≤ c) (hlen : (Lib.join l [32]).length ≤ 1000000000) (hn2 : n ≤ 20000) :
    Calls Tryz.prog 47 #[.slice A n c, .string ⟨#[32]⟩] w fun e w' => e = .returned (.string ⟨(Lib.join l [32]).toArray⟩) ∧ Below w.heap.size w w' := by
  rcases hs with rfl | ⟨g, off, rfl, hlt, hs⟩
  · simp at hn; omega
  have e1 : ((l.map fun t => (⟨t.toArray⟩ : ByteArray)).map (·.data.toList)) = l := by
    rw [List.map_map]
    exact List.map_id'' (fun _ => rfl) l
  have h := Tryz.strings_Join g off c (l.map fun t => (⟨t.toArray⟩ : ByteArray)) ⟨#[32]⟩ w (fun j x hx => ?_) hlt (by rw [List.length_map]; omega) (by rw [List.length_map]; omega) (by rw [e1]; exact Nat.le_trans hlen (by decide))
  · rw [e1, List.length_map, hn] at h
    exact h
  · rw [List.getElem?_map] at hx
    cases hl : l[j]? with
    | none => rw [hl] at hx; cases hx
    | some t =>
      rw [hl] at hx
      simp at hx
      subst hx
      have := hs j t hl 0 _ rfl
      rwa [Nat.mul_one, Nat.add_zero] at this
end Go.Proofs.YtjgpmnffagdhlaaGreatDoor
namespace Go.Proofs.YtjgpmnffagdhlaaGreatDoor
open Go Go.RowKit
set_option maxRecDepth 100000
/-- What a statement's print is. -/
def PrS (x : St) (t : List UInt8) : Prop := (mayS x = true ∧ (printL (toksS x)).length ≤ 20000 ∧ t = printL (toksS x)) ∨ (¬ (mayS x = true ∧ (printL (toksS x)).length ≤ 20000) ∧ t = [])
theorem PrS.uniq {x : St} {t u : List UInt8} (h : PrS x t) (k : PrS x u) : t = u := by
  rcases h with ⟨a, b, rfl⟩ | ⟨a, rfl⟩ <;> rcases k with ⟨c, d, rfl⟩ | ⟨c, rfl⟩
  · rfl
  · exact absurd ⟨a, b⟩ c
  · exact absurd ⟨c, d⟩ a
  · rfl
/-- The words of a statement, as the program makes them. -/
def valsW (x : St) : List (List UInt8) := if x.k = 2 ∨ x.k = 3 then rowS (x.row.map textL) else x.row.map textL
theorem txt_valT {v : Val} (h : mayB v = true) : txtT (valT v) = textL v := by
  unfold valT
  by_cases h1 : v.eq nl = true
  · rw [if_pos h1, Val.eq_iff.1 h1]; rfl
  rw [if_neg h1]
  by_cases h2 : v.eq tt = true
  · rw [if_pos h2, Val.eq_iff.1 h2]; rfl
  rw [if_neg h2]
  by_cases h3 : v.eq ff = true
  · rw [if_pos h3, Val.eq_iff.1 h3]; rfl
  rw [if_neg h3]
  rfl
theorem sep_com : ∀ l : List Val, (∀ v ∈ l, mayB v = true) → (sepT (fun v => [valT v]) l).map txtT = comS (l.map textL)
  | [], _ => rfl
  | a :: r, h => by
    have ih := sep_com r fun v hv => h v (List.mem_cons_of_mem _ hv)
    unfold sepT
    rw [List.map_append, List.map_cons, List.map_cons]
    unfold comS
    rw [txt_valT (h a (by simp)), ← ih]
    cases r <;> simp [txt_tS, s_cm]
theorem words_eq {x : St} (h : ∀ v ∈ x.row, mayB v = true) : (toksS x).map txtT = doW x.k :: x.name.data.toList :: valsW x := by
  unfold toksS valsW rowS
  rw [List.map_cons, List.map_cons, txt_tW, txt_tN]
  congr 2
  split
  · rw [List.map_cons, List.map_append, sep_com x.row h]; rfl
  · rw [List.map_map]
    exact List.map_congr_left fun v hv => txt_valT (h v hv)
theorem sz_le : ∀ (l : List Tk) (k : Nat), (∀ t ∈ l, (txtT t).length ≤ k) → sz l ≤ (k + 1) * l.length
  | [], k, _ => Nat.zero_le _
  | t :: r, k, h => by
    have ih := sz_le r k fun u hu => h u (List.mem_cons_of_mem _ hu)
    have h1 := h t (by simp)
    rw [sz_cons, List.length_cons, Nat.mul_succ]
    omega
theorem doW_at0 {j : Nat} (h : j < 6) : stWs[j]? = some (doW (j : Int)) := by
  have : j = 0 ∨ j = 1 ∨ j = 2 ∨ j = 3 ∨ j = 4 ∨ j = 5 := by omega
  rcases this with rfl | rfl | rfl | rfl | rfl | rfl <;> rfl
theorem may_parts {x : St} (h : mayS x = true) : ((∃ j : Nat, j < 6 ∧ x.k = j) ∧ nameB x.name.data.toList = true) ∧ (∀ v ∈ x.row, mayB v = true) ∧ x.row.length ≤ 40 := by
  unfold mayS at h
  simp only [Bool.and_eq_true, decide_eq_true_eq, List.all_eq_true] at h
  obtain ⟨h1, h2, h3, h4, h5⟩ := h
  refine ⟨⟨⟨x.k.toNat, by omega, by omega⟩, h3⟩, h4, ?_⟩
  split at h5
  · exact of_decide_eq_true h5
  · have h6 := of_decide_eq_true h5
    rw [h6]
    unfold manyV
    split <;> (try split) <;> (try split) <;> omega
theorem val_size {v : Val} (h : mayB v = true) : v.s.size ≤ 2000 := by
  have he : emp.size = 0 := rfl
  rcases valid_of_may _ h with ⟨_, _, e⟩ | ⟨_, _, e⟩ | ⟨_, e⟩ | ⟨_, _, e⟩
  · rw [e, he]; omega
  · rw [e, he]; omega
  · rw [e, he]; omega
  · omega
theorem txt_small {x : St} (h : mayS x = true) (h6 : S64 x) : ∀ t ∈ toksS x, (txtT t).length ≤ 5000 := by
  obtain ⟨⟨_, hn⟩, hv, _⟩ := may_parts h
  have hnm := nm_len hn
  have hval : ∀ v ∈ x.row, (txtT (valT v)).length ≤ 5000 := fun v hm => by
    rw [txt_valT (hv v hm)]
    exact text_len v (h6 v hm) (val_size (hv v hm))
  have hall : ∀ s ∈ (toksS x).map txtT, s.length ≤ 5000 := by
    rw [words_eq hv]
    intro s hs
    have hd : (doW x.k).length ≤ 5000 := by unfold doW; split <;> (try split) <;> (try split) <;> (try split) <;> (try split) <;> decide
    have hvals : ∀ s ∈ x.row.map textL, s.length ≤ 5000 := fun s hs => by
      obtain ⟨v, hm, rfl⟩ := List.mem_map.1 hs
      have := hval v hm
      rwa [txt_valT (hv v hm)] at this
    have hcom : ∀ (l : List (List UInt8)), (∀ s ∈ l, s.length ≤ 5000) → ∀ s ∈ comS l, s.length ≤ 5000 := by
      intro l
      induction l with
      | nil => intro _ s hs; cases hs
      | cons a r ih =>
        intro h s hs
        unfold comS at hs
        rcases List.mem_cons.1 hs with rfl | hs
        · exact h _ (by simp)
        split at hs
        · cases hs
        · rcases List.mem_cons.1 hs with rfl | hs
          · decide
          · exact ih (fun u hu => h u (List.mem_cons_of_mem _ hu)) s hs
    rcases List.mem_cons.1 hs with rfl | hs
    · exact hd
    rcases List.mem_cons.1 hs with rfl | hs
    · have e : x.name.data.toList.length = x.name.size := rfl
      omega
    unfold valsW rowS at hs
    split at hs
    · rcases List.mem_cons.1 hs with rfl | hs
      · decide
      rcases List.mem_append.1 hs with hs | hs
      · exact hcom _ hvals s hs
      · rw [List.mem_singleton.1 hs]; decide
    · exact hvals s hs
  exact fun t ht => hall _ (List.mem_map_of_mem ht)
theorem toks_len {x : St} (h : mayS x = true) : (toksS x).length ≤ 84 := by
  obtain ⟨_, hv, hl⟩ := may_parts h
  have : ((toksS x).map txtT).length = (toksS x).length := List.length_map _
  rw [← this, words_eq hv]
  have := comS_len (x.row.map textL)
  rw [List.length_map] at this
  unfold valsW rowS
  split <;> simp <;> omega
theorem join_le {x : St} (h : mayS x = true) (h6 : S64 x) : (printL (toksS x)).length ≤ 1000000 := by
  refine Nat.le_trans (print_sz _) (Nat.le_trans (sz_le _ 5000 (txt_small h h6)) ?_)
  have := toks_len h
  omega
set_option maxHeartbeats 8000000 in
theorem sprint_c (x : Stm) (w : World) (hG : Gw w.heap.size w) (hW : StW w) (hg : 0 < w.heap.size) (hx : x.In w) (hz : ∀ v ∈ x.row.xs, v.s.size ≤ maxLen) (hn : x.name.size ≤ 4611686018427387904) (h6 : S64 x.st) :
    Calls Tryz.prog 24 #[x.w] w fun e w' => ∃ t, e = .returned (.string (ba t)) ∧ PrS x.st t ∧ Below w.heap.size w w' := by
  obtain ⟨k, nm, ⟨A, n, c, xs⟩⟩ := x
  obtain ⟨W, hW1⟩ : ∃ W, w.alloc (.cells #[.int .i64 k, .string nm, .slice A n c] 50) = W := ⟨_, rfl⟩
  have hb0 : Below w.heap.size w W := by rw [← hW1]; exact below_one w _
  have HM := Lib.hid (smay_c ⟨k, nm, ⟨A, n, c, xs⟩⟩ W ((hG.below hb0).up hb0.size) (hx.after hb0) hz hn)
  have HB0 := Lib.hid hb0
  have HK : Hid (Bk W w.heap.size #[.int .i64 k, .string nm, .slice A n c] 50) := Lib.hid (by rw [← hW1]; exact Bk.new w _ _)
  have c0 : W.cell? ⟨w.heap.size, 0, none⟩ = some (.int .i64 k) := HK.out.cell 0
  have c1 : W.cell? ⟨w.heap.size, 1, none⟩ = some (.string nm) := HK.out.cell 1
  have c2 : W.cell? ⟨w.heap.size, 2, none⟩ = some (.slice A n c) := HK.out.cell 2
  have hlK := HK.out.lt
  have HW1 := Lib.hid hW1
  have HG := Lib.hid hG
  have Hg := Lib.hid hg
  have HWw := Lib.hid hW
  have Hx := Lib.hid hx
  have H6 := Lib.hid h6
  obtain ⟨R, hR⟩ : ∃ R, mayS (⟨k, nm, ⟨A, n, c, xs⟩⟩ : Stm).st = R := ⟨_, rfl⟩
  rw [hR] at HM
  have HR := Lib.hid hR
  clear hR hW1 hG hg hW hx h6 hz hn hb0
  go_enter Tryz.func24, Tryz.ntmps24
  go_wp2_with fail
  rw [HW1.out]
  refine HM.out.mono ?_
  rintro e w1 ⟨rfl, hb⟩
  have HB1 := Lib.hid (below_via HB0.out hb)
  have HK1 := Lib.hid (HK.out.after hb hlK)
  clear hb c0 c1 c2 hlK HM HK
  cases R
  · clear HK1
    go_wp2
    go_ret
    exact ⟨[], rfl, .inr ⟨fun h => (by have := h.1; rw [HR.out] at this; cases this), rfl⟩, HB1.out⟩
  obtain ⟨⟨⟨j, hj, hkj⟩, hnm⟩, hv, hl40⟩ := may_parts HR.out
  have hkj : k = (j : Int) := hkj
  subst hkj
  have hxn : xs.length = n := Hx.out.len
  have hn40 : n ≤ 40 := by rw [← hxn]; exact hl40
  have c0 : w1.cell? ⟨w.heap.size, 0, none⟩ = some (.int .i64 (j : Int)) := HK1.out.cell 0
  have c1 : w1.cell? ⟨w.heap.size, 1, none⟩ = some (.string nm) := HK1.out.cell 1
  have c2 : w1.cell? ⟨w.heap.size, 2, none⟩ = some (.slice A n c) := HK1.out.cell 2
  have hlK := HK1.out.lt
  have HT := Lib.hid (textsof_c A n c xs w1 hxn (by omega) ((Hx.out.after HB1.out).sl) H6.out (fun v hm => val_size (hv v hm)) ((HG.out.below HB1.out).gl.gl))
  have Hn40 := Lib.hid hn40
  have Hxn := Lib.hid hxn
  have Hv := Lib.hid hv
  have Hj := Lib.hid hj
  clear hn40 hxn hv hj hl40 hnm
  go_wp2_with fail
  refine HT.out.mono ?_
  rintro e w2 ⟨rfl, hM, hb⟩
  have HB2 := Lib.hid (below_via HB1.out hb)
  have HK2 := Lib.hid (HK1.out.after hb hlK)
  have hM2 := Lib.hid hM
  have Hg2 : Hid (w.heap.size ≤ w1.heap.size) := Lib.hid HB1.out.size
  clear hM hb c0 c1 c2 hlK HT HK1
  have c0 : w2.cell? ⟨w.heap.size, 0, none⟩ = some (.int .i64 (j : Int)) := HK2.out.cell 0
  have hlK := HK2.out.lt
  have HH := Lib.hid (hasrow_c (j : Int) w2)
  obtain ⟨V, hV⟩ : ∃ V, decide ((j : Int) = 2 ∨ (j : Int) = 3) = V := ⟨_, rfl⟩
  rw [hV] at HH
  have HV := Lib.hid hV
  clear hV
  go_wp2_with fail
  refine HH.out.mono ?_
  rintro e w' ⟨rfl, rfl⟩
  clear HH c0
  cases V
  · have hb23 : ¬ ((j : Int) = 2 ∨ (j : Int) = 3) := of_decide_eq_false HV.out
    have HKu := HK2
    have HBu := HB2
    have HD : Hid (SlG w' (some ⟨w1.heap.size, 0, none⟩) 1 rdS (valsW ⟨(j : Int), nm, xs⟩)) := Lib.hid (by unfold valsW; rw [if_neg hb23]; exact hM2.out.slG)
    have Hm : Hid ((valsW ⟨(j : Int), nm, xs⟩).length = n ∧ n ≤ n ∧ n ≤ 100) := Lib.hid (by have := Hn40.out; unfold valsW; rw [if_neg hb23, List.length_map]; exact ⟨Hxn.out, Nat.le_refl _, by omega⟩)
    clear hb23
    have c0 : w'.cell? ⟨w.heap.size, 0, none⟩ = some (.int .i64 (j : Int)) := HKu.out.cell 0
    have c1 : w'.cell? ⟨w.heap.size, 1, none⟩ = some (.string nm) := HKu.out.cell 1
    have g0 : w'.cell? ⟨0, j, none⟩ = some (.string (ba (doW (j : Int)))) := (HWw.out.below HBu.out Hg.out) j _ (doW_at0 Hj.out)
    have hl1 : w.heap.size < w'.heap.size := HKu.out.lt
    have hl2 : 0 < w'.heap.size := Nat.lt_of_lt_of_le Hg.out HBu.out.size
    have hj6 : (j : Int) < 6 := by have := Hj.out; omega
    obtain ⟨vs, hvs⟩ : ∃ vs, valsW ⟨(j : Int), nm, xs⟩ = vs := ⟨_, rfl⟩
    rw [hvs] at HD Hm
    have HPr : Hid (printL (toksS ⟨(j : Int), nm, xs⟩) = Lib.join (doW (j : Int) :: nm.data.toList :: vs) [32]) := Lib.hid (by unfold printL; rw [words_eq (x := ⟨(j : Int), nm, xs⟩) Hv.out, hvs])
    have HPl : Hid ((Lib.join (doW (j : Int) :: nm.data.toList :: vs) [32]).length ≤ 1000000) := Lib.hid (by rw [← HPr.out]; exact join_le HR.out H6.out)
    obtain ⟨d, hd⟩ : ∃ d, doW (j : Int) = d := ⟨_, rfl⟩
    rw [hd] at g0 HPr HPl
    obtain ⟨T, hT⟩ : ∃ T, ba d = T := ⟨_, rfl⟩
    rw [hT] at g0
    have e1 : (w'.alloc (.cells #[.string T, .string nm] 9)).heap.size = w'.heap.size + 1 := by simp
    have hX0 : Below w'.heap.size w' (w'.alloc (.cells #[.string T, .string nm] 9)) := below_one _ _
    have hX1 : Below w'.heap.size w' ((w'.alloc (.cells #[.string T, .string nm] 9)).alloc (.cells #[.slice (some ⟨w'.heap.size, 0, none⟩) 2 2, .slice (some ⟨w1.heap.size, 0, none⟩) n n] 76)) := below_al hX0 _
    have HX : Hid (Below w'.heap.size w' ((w'.alloc (.cells #[.string T, .string nm] 9)).alloc (.cells #[.slice (some ⟨w'.heap.size, 0, none⟩) 2 2, .slice (some ⟨w1.heap.size, 0, none⟩) n n] 76)).drew) := Lib.hid hX1.drew
    have hs1 : SlG ((w'.alloc (.cells #[.string T, .string nm] 9)).alloc (.cells #[.slice (some ⟨w'.heap.size, 0, none⟩) 2 2, .slice (some ⟨w1.heap.size, 0, none⟩) n n] 76)).drew (some ⟨w'.heap.size, 0, none⟩) 1 rdS [d, nm.data.toList] := by
      have h := (SlG.newAt (w := w') (E := 9) (rd := rdS) (S := 1) (cs := #[.string T, .string nm]) rfl (fun _ => rfl) [d, nm.data.toList] (by rw [← hT]; rfl)).alloc (.cells #[.slice (some ⟨w'.heap.size, 0, none⟩) 2 2, .slice (some ⟨w1.heap.size, 0, none⟩) n n] 76)
      exact h.after (Below.refl _ _).drew
    have hs2 : SlG ((w'.alloc (.cells #[.string T, .string nm] 9)).alloc (.cells #[.slice (some ⟨w'.heap.size, 0, none⟩) 2 2, .slice (some ⟨w1.heap.size, 0, none⟩) n n] 76)).drew (some ⟨w1.heap.size, 0, none⟩) 1 rdS vs := HD.out.after HX.out
    have hL : SlG ((w'.alloc (.cells #[.string T, .string nm] 9)).alloc (.cells #[.slice (some ⟨w'.heap.size, 0, none⟩) 2 2, .slice (some ⟨w1.heap.size, 0, none⟩) n n] 76)).drew (some ⟨w'.heap.size + 1, 0, none⟩) 1 rdSx [⟨some ⟨w'.heap.size, 0, none⟩, 2, 2, [d, nm.data.toList]⟩, ⟨(some ⟨w1.heap.size, 0, none⟩), n, n, vs⟩] := by
      have h := SlG.newAt (w := w'.alloc (.cells #[.string T, .string nm] 9)) (E := 76) (rd := rdSx) (S := 1) (cs := #[.slice (some ⟨w'.heap.size, 0, none⟩) 2 2, .slice (some ⟨w1.heap.size, 0, none⟩) n n]) e1 (fun _ => rfl) [⟨some ⟨w'.heap.size, 0, none⟩, 2, 2, [d, nm.data.toList]⟩, ⟨(some ⟨w1.heap.size, 0, none⟩), n, n, vs⟩] rfl
      exact h.after (Below.refl _ _).drew
    have hall : allT [⟨some ⟨w'.heap.size, 0, none⟩, 2, 2, [d, nm.data.toList]⟩, ⟨(some ⟨w1.heap.size, 0, none⟩), n, n, vs⟩] = d :: nm.data.toList :: vs := by simp [allT]
    have HC := Lib.hid (concat_c (w'.heap.size + 1) 2 [⟨some ⟨w'.heap.size, 0, none⟩, 2, 2, [d, nm.data.toList]⟩, ⟨(some ⟨w1.heap.size, 0, none⟩), n, n, vs⟩] (((w'.alloc (.cells #[.string T, .string nm] 9)).alloc (.cells #[.slice (some ⟨w'.heap.size, 0, none⟩) 2 2, .slice (some ⟨w1.heap.size, 0, none⟩) n n] 76)).drew) rfl (by decide) hL
      (fun h hh => by
        rcases List.mem_cons.1 hh with rfl | hh
        · exact ⟨rfl, by unfold maxLen; simp, hs1⟩
        · rw [List.mem_singleton.1 hh]
          exact ⟨Hm.out.1, by have := Hm.out.2.2; unfold maxLen; simp only; omega, hs2⟩)
      (by rw [hall]; simp) (by rw [hall]; have := Hm.out.1; have := Hm.out.2.2; simp; omega))
    rw [hall] at HC
    obtain ⟨Ls, hLs⟩ : ∃ Ls, d :: nm.data.toList :: vs = Ls := ⟨_, rfl⟩
    rw [hLs] at HC HPr HPl
    have HLs : Hid (0 < Ls.length ∧ Ls.length ≤ 1000) := Lib.hid (by rw [← hLs]; have := Hm.out.1; have := Hm.out.2.2; simp; omega)
    have HSt : Hid (∀ wy, Below w'.heap.size w' wy → (wy.cell? ⟨w.heap.size, 0, none⟩ = some (.int .i64 (j : Int)) ∧ wy.cell? ⟨w.heap.size, 1, none⟩ = some (.string nm) ∧ wy.cell? ⟨0, j, none⟩ = some (.string T))) := Lib.hid (fun wy h => ⟨(h.cell (p := ⟨w.heap.size, 0, none⟩) HKu.out.lt).trans (by rw [HKu.out.cell 0]; rfl), (h.cell (p := ⟨w.heap.size, 1, none⟩) HKu.out.lt).trans (by rw [HKu.out.cell 1]; rfl), (h.cell (p := ⟨0, j, none⟩) (Nat.lt_of_lt_of_le Hg.out HBu.out.size)).trans (by rw [← hT, ← hd]; exact (HWw.out.below HBu.out Hg.out) j _ (doW_at0 Hj.out))⟩)
    have HBw := Lib.hid HBu.out
    clear hvs hX0 hX1 hs1 hs2 hL hall hLs e1 hT hd
    go_wp2_with fail
    go_region_held3 (fun w' => (w'.cell? ⟨w.heap.size, 0, none⟩ = some (.int .i64 (j : Int)) ∧ w'.cell? ⟨w.heap.size, 1, none⟩ = some (.string nm) ∧ w'.cell? ⟨0, j, none⟩ = some (.string T)))
      (first
        | exact HSt.out _ HbS.out
        | go_keep)
      (first
        | (go_at_call 48
           with_reducible refine HC.out.mono ?_
           rintro e w5 ⟨v5, rfl, ho5, hb5⟩
           have HbS := Lib.hid (below_via HX.out hb5)
           obtain ⟨A5, c5, rfl, hc5, hm5, hs5⟩ := ho5.sl sOk.len
           have HJ := Lib.hid (joinS_c A5 Ls.length c5 Ls w5 hs5 rfl HLs.out.1 hc5 (Nat.le_trans HPl.out (by decide)) (by have := HLs.out.2; omega))
           clear hb5 ho5 hc5 hm5 hs5)
        | (go_at_call 47
           with_reducible refine HJ.out.mono ?_
           rintro e w6 ⟨rfl, hb6⟩
           have HbS := Lib.hid (below_via HbS.out hb6)
           clear hb6))
    all_goals
      clear HX HC HJ HSt c0 c1 g0 hl1 hl2
      have HB6 := Lib.hid (below_via HBw.out HbS.out)
      obtain ⟨Pt, hPt⟩ : ∃ Pt, Lib.join Ls [32] = Pt := ⟨_, rfl⟩
      rw [hPt] at HPr HPl
      rw [hPt]
      have hba : (⟨Pt.toArray⟩ : ByteArray) = ba Pt := rfl
      rw [hba]
      obtain ⟨U, hU⟩ : ∃ U, ba Pt = U := ⟨_, rfl⟩
      have hUs : U.size = Pt.length := by rw [← hU]; rfl
      rw [hU]
      have HU := Lib.hid hU
      have hUl := HPl.out
      rw [← hUs] at hUl
      clear hba hU hPt
      by_cases h2 : Pt.length ≤ 20000
      · have hdd : decide ((U.size : Int) > 20000) = false := decide_eq_false (by omega)
        have HF : Hid (PrS ⟨(j : Int), nm, xs⟩ Pt) := Lib.hid (.inl ⟨HR.out, by rw [HPr.out]; exact h2, HPr.out.symm⟩)
        clear h2 hUs
        go_wp2
        go_ret
        exact ⟨Pt, by rw [HU.out]; rfl, HF.out, HB6.out⟩
      · have hdd : decide ((U.size : Int) > 20000) = true := decide_eq_true (by omega)
        have HF : Hid (PrS ⟨(j : Int), nm, xs⟩ []) := Lib.hid (.inr ⟨fun h => h2 (by rw [← HPr.out]; exact h.2), rfl⟩)
        clear h2 hUs
        go_wp2
        go_ret
        exact ⟨[], rfl, HF.out, HB6.out⟩
  · have hb23 : ((j : Int) = 2 ∨ (j : Int) = 3) := of_decide_eq_true HV.out
    have HAr := Lib.hid (asrow_c (some ⟨w1.heap.size, 0, none⟩) n n (xs.map textL) w' (by rw [List.length_map]; exact Hxn.out) (by have := Hn40.out; omega) hM2.out.slG)
    have HVw : Hid (rowS (xs.map textL) = valsW ⟨(j : Int), nm, xs⟩) := Lib.hid (by unfold valsW; rw [if_pos hb23])
    clear hb23
    go_wp2_with fail
    refine HAr.out.mono ?_
    rintro e w3 ⟨v3, rfl, ho, hb⟩
    rw [HVw.out] at ho
    have HBu := Lib.hid (below_via HB2.out hb)
    have HKu := Lib.hid (HK2.out.after hb hlK)
    obtain ⟨A3, c3, rfl, hc3, hm3, hs3⟩ := ho.sl sOk.len
    have HD := Lib.hid hs3
    have hle : (valsW ⟨(j : Int), nm, xs⟩).length ≤ 100 := by
      rw [← HVw.out]
      have := comS_len (xs.map textL)
      have := Hn40.out
      have := Hxn.out
      rw [List.length_map] at *
      unfold rowS
      simp
      omega
    obtain ⟨m3, hm3'⟩ : ∃ m3, (valsW ⟨(j : Int), nm, xs⟩).length = m3 := ⟨_, rfl⟩
    rw [hm3'] at hc3 hle ⊢
    have Hm : Hid ((valsW ⟨(j : Int), nm, xs⟩).length = m3 ∧ m3 ≤ c3 ∧ m3 ≤ 100) := Lib.hid ⟨hm3', hc3, hle⟩
    clear ho hb hc3 hm3 hs3 hle hm3' HAr HVw
    have c0 : w3.cell? ⟨w.heap.size, 0, none⟩ = some (.int .i64 (j : Int)) := HKu.out.cell 0
    have c1 : w3.cell? ⟨w.heap.size, 1, none⟩ = some (.string nm) := HKu.out.cell 1
    have g0 : w3.cell? ⟨0, j, none⟩ = some (.string (ba (doW (j : Int)))) := (HWw.out.below HBu.out Hg.out) j _ (doW_at0 Hj.out)
    have hl1 : w.heap.size < w3.heap.size := HKu.out.lt
    have hl2 : 0 < w3.heap.size := Nat.lt_of_lt_of_le Hg.out HBu.out.size
    have hj6 : (j : Int) < 6 := by have := Hj.out; omega
    obtain ⟨vs, hvs⟩ : ∃ vs, valsW ⟨(j : Int), nm, xs⟩ = vs := ⟨_, rfl⟩
    rw [hvs] at HD Hm
    have HPr : Hid (printL (toksS ⟨(j : Int), nm, xs⟩) = Lib.join (doW (j : Int) :: nm.data.toList :: vs) [32]) := Lib.hid (by unfold printL; rw [words_eq (x := ⟨(j : Int), nm, xs⟩) Hv.out, hvs])
    have HPl : Hid ((Lib.join (doW (j : Int) :: nm.data.toList :: vs) [32]).length ≤ 1000000) := Lib.hid (by rw [← HPr.out]; exact join_le HR.out H6.out)
    obtain ⟨d, hd⟩ : ∃ d, doW (j : Int) = d := ⟨_, rfl⟩
    rw [hd] at g0 HPr HPl
    obtain ⟨T, hT⟩ : ∃ T, ba d = T := ⟨_, rfl⟩
    rw [hT] at g0
    have e1 : (w3.alloc (.cells #[.string T, .string nm] 9)).heap.size = w3.heap.size + 1 := by simp
    have hX0 : Below w3.heap.size w3 (w3.alloc (.cells #[.string T, .string nm] 9)) := below_one _ _
    have hX1 : Below w3.heap.size w3 ((w3.alloc (.cells #[.string T, .string nm] 9)).alloc (.cells #[.slice (some ⟨w3.heap.size, 0, none⟩) 2 2, .slice A3 m3 c3] 76)) := below_al hX0 _
    have HX : Hid (Below w3.heap.size w3 ((w3.alloc (.cells #[.string T, .string nm] 9)).alloc (.cells #[.slice (some ⟨w3.heap.size, 0, none⟩) 2 2, .slice A3 m3 c3] 76)).drew) := Lib.hid hX1.drew
    have hs1 : SlG ((w3.alloc (.cells #[.string T, .string nm] 9)).alloc (.cells #[.slice (some ⟨w3.heap.size, 0, none⟩) 2 2, .slice A3 m3 c3] 76)).drew (some ⟨w3.heap.size, 0, none⟩) 1 rdS [d, nm.data.toList] := by
      have h := (SlG.newAt (w := w3) (E := 9) (rd := rdS) (S := 1) (cs := #[.string T, .string nm]) rfl (fun _ => rfl) [d, nm.data.toList] (by rw [← hT]; rfl)).alloc (.cells #[.slice (some ⟨w3.heap.size, 0, none⟩) 2 2, .slice A3 m3 c3] 76)
      exact h.after (Below.refl _ _).drew
    have hs2 : SlG ((w3.alloc (.cells #[.string T, .string nm] 9)).alloc (.cells #[.slice (some ⟨w3.heap.size, 0, none⟩) 2 2, .slice A3 m3 c3] 76)).drew A3 1 rdS vs := HD.out.after HX.out
    have hL : SlG ((w3.alloc (.cells #[.string T, .string nm] 9)).alloc (.cells #[.slice (some ⟨w3.heap.size, 0, none⟩) 2 2, .slice A3 m3 c3] 76)).drew (some ⟨w3.heap.size + 1, 0, none⟩) 1 rdSx [⟨some ⟨w3.heap.size, 0, none⟩, 2, 2, [d, nm.data.toList]⟩, ⟨A3, m3, c3, vs⟩] := by
      have h := SlG.newAt (w := w3.alloc (.cells #[.string T, .string nm] 9)) (E := 76) (rd := rdSx) (S := 1) (cs := #[.slice (some ⟨w3.heap.size, 0, none⟩) 2 2, .slice A3 m3 c3]) e1 (fun _ => rfl) [⟨some ⟨w3.heap.size, 0, none⟩, 2, 2, [d, nm.data.toList]⟩, ⟨A3, m3, c3, vs⟩] rfl
      exact h.after (Below.refl _ _).drew
    have hall : allT [⟨some ⟨w3.heap.size, 0, none⟩, 2, 2, [d, nm.data.toList]⟩, ⟨A3, m3, c3, vs⟩] = d :: nm.data.toList :: vs := by simp [allT]
    have HC := Lib.hid (concat_c (w3.heap.size + 1) 2 [⟨some ⟨w3.heap.size, 0, none⟩, 2, 2, [d, nm.data.toList]⟩, ⟨A3, m3, c3, vs⟩] (((w3.alloc (.cells #[.string T, .string nm] 9)).alloc (.cells #[.slice (some ⟨w3.heap.size, 0, none⟩) 2 2, .slice A3 m3 c3] 76)).drew) rfl (by decide) hL
      (fun h hh => by
        rcases List.mem_cons.1 hh with rfl | hh
        · exact ⟨rfl, by unfold maxLen; simp, hs1⟩
        · rw [List.mem_singleton.1 hh]
          exact ⟨Hm.out.1, by have := Hm.out.2.2; unfold maxLen; simp only; omega, hs2⟩)
      (by rw [hall]; simp) (by rw [hall]; have := Hm.out.1; have := Hm.out.2.2; simp; omega))
    rw [hall] at HC
    obtain ⟨Ls, hLs⟩ : ∃ Ls, d :: nm.data.toList :: vs = Ls := ⟨_, rfl⟩
    rw [hLs] at HC HPr HPl
    have HLs : Hid (0 < Ls.length ∧ Ls.length ≤ 1000) := Lib.hid (by rw [← hLs]; have := Hm.out.1; have := Hm.out.2.2; simp; omega)
    have HSt : Hid (∀ wy, Below w3.heap.size w3 wy → (wy.cell? ⟨w.heap.size, 0, none⟩ = some (.int .i64 (j : Int)) ∧ wy.cell? ⟨w.heap.size, 1, none⟩ = some (.string nm) ∧ wy.cell? ⟨0, j, none⟩ = some (.string T))) := Lib.hid (fun wy h => ⟨(h.cell (p := ⟨w.heap.size, 0, none⟩) HKu.out.lt).trans (by rw [HKu.out.cell 0]; rfl), (h.cell (p := ⟨w.heap.size, 1, none⟩) HKu.out.lt).trans (by rw [HKu.out.cell 1]; rfl), (h.cell (p := ⟨0, j, none⟩) (Nat.lt_of_lt_of_le Hg.out HBu.out.size)).trans (by rw [← hT, ← hd]; exact (HWw.out.below HBu.out Hg.out) j _ (doW_at0 Hj.out))⟩)
    have HBw := Lib.hid HBu.out
    clear hvs hX0 hX1 hs1 hs2 hL hall hLs e1 hT hd
    go_wp2_with fail
    go_region_held3 (fun w' => (w'.cell? ⟨w.heap.size, 0, none⟩ = some (.int .i64 (j : Int)) ∧ w'.cell? ⟨w.heap.size, 1, none⟩ = some (.string nm) ∧ w'.cell? ⟨0, j, none⟩ = some (.string T)))
      (first
        | exact HSt.out _ HbS.out
        | go_keep)
      (first
        | (go_at_call 48
           with_reducible refine HC.out.mono ?_
           rintro e w5 ⟨v5, rfl, ho5, hb5⟩
           have HbS := Lib.hid (below_via HX.out hb5)
           obtain ⟨A5, c5, rfl, hc5, hm5, hs5⟩ := ho5.sl sOk.len
           have HJ := Lib.hid (joinS_c A5 Ls.length c5 Ls w5 hs5 rfl HLs.out.1 hc5 (Nat.le_trans HPl.out (by decide)) (by have := HLs.out.2; omega))
           clear hb5 ho5 hc5 hm5 hs5)
        | (go_at_call 47
           with_reducible refine HJ.out.mono ?_
           rintro e w6 ⟨rfl, hb6⟩
           have HbS := Lib.hid (below_via HbS.out hb6)
           clear hb6))
    all_goals
      clear HX HC HJ HSt c0 c1 g0 hl1 hl2
      have HB6 := Lib.hid (below_via HBw.out HbS.out)
      obtain ⟨Pt, hPt⟩ : ∃ Pt, Lib.join Ls [32] = Pt := ⟨_, rfl⟩
      rw [hPt] at HPr HPl
      rw [hPt]
      have hba : (⟨Pt.toArray⟩ : ByteArray) = ba Pt := rfl
      rw [hba]
      obtain ⟨U, hU⟩ : ∃ U, ba Pt = U := ⟨_, rfl⟩
      have hUs : U.size = Pt.length := by rw [← hU]; rfl
      rw [hU]
      have HU := Lib.hid hU
      have hUl := HPl.out
      rw [← hUs] at hUl
      clear hba hU hPt
      by_cases h2 : Pt.length ≤ 20000
      · have hdd : decide ((U.size : Int) > 20000) = false := decide_eq_false (by omega)
        have HF : Hid (PrS ⟨(j : Int), nm, xs⟩ Pt) := Lib.hid (.inl ⟨HR.out, by rw [HPr.out]; exact h2, HPr.out.symm⟩)
        clear h2 hUs
        go_wp2
        go_ret
        exact ⟨Pt, by rw [HU.out]; rfl, HF.out, HB6.out⟩
      · have hdd : decide ((U.size : Int) > 20000) = true := decide_eq_true (by omega)
        have HF : Hid (PrS ⟨(j : Int), nm, xs⟩ []) := Lib.hid (.inr ⟨fun h => h2 (by rw [← HPr.out]; exact h.2), rfl⟩)
        clear h2 hUs
        go_wp2
        go_ret
        exact ⟨[], rfl, HF.out, HB6.out⟩
end Go.Proofs.YtjgpmnffagdhlaaGreatDoor
namespace Go.Proofs.YtjgpmnffagdhlaaGreatDoor
open Go Go.RowKit
set_option maxRecDepth 100000
/-- A function whose results are a statement and another value, at its return. -/
theorem ret_stm2 {fn : Func} {R : Ending → World → Prop} {F : Act} {w : World} {t u : Tmp} {b : Nat} {x : Stm} {z : Value} (hres : fn.results = #[.cell t 50, .tmp u]) (ht : Reg.slot F t = .pointer (some ⟨b, 0, none⟩)) (hu : Reg.slot F u = z) (hb : BkS w b x) (hd : F.defers = [])
    (hR : R (.returned (.tuple #[x.w, z])) w) : bodyPost Tryz.prog fn R .ret F w := by
  have h0 := hb.cell 0
  have h1 := hb.cell 1
  have h2 := hb.cell 2
  simp only [List.getElem?_toArray, List.getElem?_cons_zero, List.getElem?_cons_succ] at h0 h1 h2
  refine bodyPost_ret (v := .tuple #[x.w, z]) ?_ hd hR
  have ht' : F.tmps[t]?.getD undef = .pointer (some ⟨b, 0, none⟩) := by simpa [Reg.slot] using ht
  have hu' : F.tmps[u]?.getD undef = z := by simpa [Reg.slot] using hu
  simp [results, hres, ht', hu', go_sem, h0, h1, h2]
/-- What statement tells. -/
structure StSaid (o : Option St) (w : World) (v : Value) (w' : World) : Prop where
  be : Below w.heap.size w w'
  no : o = none → ∃ y : Stm, v = .tuple #[y.w, .bool false]
  yes : ∀ s, o = some s → ∃ y : Stm, v = .tuple #[y.w, .bool true] ∧ y.In w' ∧ y.st = s ∧ y.row.Lo w.heap.size
theorem slice_rest (b off n c : Nat) (l : List Tk) (w : World) (hl : SlG w (some ⟨b, off, none⟩) 5 rdT l) (h1 : 2 ≤ n) (hn : n ≤ c) (hln : l.length = n) :
    ∃ D : Option Addr, SlG w D 5 rdT (l.drop 2) ∧ ∀ u : World, (Instr.slice 82 (.slice (some ⟨b, off, none⟩) n c) (some (.int .i64 2)) none none).run Tryz.prog u = .ok (.slice D (n - 2) (c - 2)) u := by
  have hr0 : ∀ (m : Nat) (u : World), m ≤ n → (Instr.slice 82 (.slice (some ⟨b, off, none⟩) n c) (some (.int .i64 m)) none none).run Tryz.prog u = .ok (.slice (if c = m then some ⟨b, off, none⟩ else some ⟨b, off + m * 5, none⟩) (n - m) (c - m)) u := fun m u hm => by
    rw [run_slice_l u _ _ _ _ under_tok .i64 m (by omega) (by omega), elem_tok, size_tok]
    by_cases hc : c = m <;> simp [Result.andThen, sliced, hc, Addr.add]
  have hr := fun u => hr0 2 u h1
  by_cases hc : c = 2
  · refine ⟨some ⟨b, off, none⟩, .inl (List.drop_eq_nil_of_le (by omega)), fun u => ?_⟩
    have := hr u
    rw [if_pos hc] at this
    exact this
  · refine ⟨some ⟨b, off + 10, none⟩, ?_, fun u => ?_⟩
    · rcases hl with rfl | ⟨b', off', hA, hlt, h⟩
      · exact .inl rfl
      · injection hA with hA
        injection hA with e1 e2 _
        subst e1
        subst e2
        refine .inr ⟨b, off + 10, rfl, hlt, fun i x hx j v hv => ?_⟩
        rw [List.getElem?_drop] at hx
        have := h (2 + i) x hx j v hv
        rwa [show off + (2 + i) * 5 + j = off + 10 + i * 5 + j by omega] at this
    · have := hr u
      rw [if_neg hc] at this
      exact this
theorem Sx.In.putL {α : Type} {S : Nat} {rd : α → List Value} {w : World} {B b : Nat} {h : Sx α} (hi : h.In w S rd) (hlo : h.Lo B) (hb : b < B) (vs : List Value) : h.In (putL w b 0 vs) S rd :=
  ⟨hi.len, hi.max, by
    rcases hi.sl with h0 | ⟨c, off, hA, hlt, hc⟩
    · exact .inl h0
    · refine .inr ⟨c, off, hA, by rw [putL_size]; exact hlt, fun i x hx j u hu => ?_⟩
      rw [← hc i x hx j u hu]
      have : B ≤ c := hlo c (by rw [hA]; rfl)
      simp only [World.cell?, putL_heap vs w b 0 c (by omega)]⟩
theorem below_putL {B : Nat} {w u : World} {b : Nat} (h : Below B w u) (hB : B ≤ b) : ∀ (vs : List Value) (j : Nat), Below B w (putL u b j vs) := fun vs j =>
  ⟨(putL_io vs u b j).1.trans h.os, (putL_io vs u b j).2.1.trans h.tape, (putL_io vs u b j).2.2.trans h.output, by rw [putL_size]; exact h.size, fun k hk => (putL_heap vs u b j k (by omega)).trans (h.block k hk)⟩
set_option maxHeartbeats 16000000 in
theorem stmt_c (A : Option Addr) (n c : Nat) (l : List Tk) (w : World) (hn : l.length = n) (hm : n ≤ 20000) (hc : n ≤ c) (hs : SlG w A 5 rdT l) (hno : NoT l) (hW : StW w) :
    Calls Tryz.prog 50 #[.slice A n c] w fun e w' => ∃ v, e = .returned v ∧ StSaid (stmO l) w v w' := by
  obtain ⟨O, hO⟩ : ∃ O, stmO l = O := ⟨_, rfl⟩
  rw [hO]
  match l, hn, hO, hs, hno with
  | [], hn, hO, _, _ =>
    subst hn hO
    go_enter Tryz.func50, Tryz.ntmps50
    go_wp2
    refine ret_stm2 (b := w.heap.size) (x := sm0) Tryz.results50 rfl rfl (Bk.new w _ _) rfl ⟨_, rfl, below_one w _, fun _ => ⟨_, rfl⟩, fun s h => (by cases h)⟩
  | [t0], hn, hO, _, _ =>
    subst hn hO
    go_enter Tryz.func50, Tryz.ntmps50
    go_wp2
    refine ret_stm2 (b := w.heap.size) (x := sm0) Tryz.results50 rfl rfl (Bk.new w _ _) rfl ⟨_, rfl, below_one w _, fun _ => ⟨_, rfl⟩, fun s h => (by cases h)⟩
  | t0 :: t1 :: r, hn, hO, hs, hno =>
    rw [stmO_cons] at hO
    obtain ⟨b, off, x0, rfl, hblt, hx0, hc0⟩ := hs.atS (k := 0) (by simp)
    obtain ⟨b', off', x1, hA, _, hx1, hc1⟩ := hs.atS (k := 1) (by simp)
    injection hA with hA
    injection hA with e1 e2 _
    subst e1
    subst e2
    obtain rfl : t0 = x0 := Option.some.inj hx0
    obtain rfl : t1 = x1 := Option.some.inj hx1
    have hrl : r.length + 2 = n := hn
    obtain ⟨D, hD, hsl⟩ := slice_rest b off n c _ w hs (by omega) hc hn
    have hD : SlG w D 5 rdT r := hD
    obtain ⟨k0, s0, ⟨vk, vn, vs0⟩⟩ := t0
    obtain ⟨s1, hs1⟩ : ∃ s, t1.t = s := ⟨_, rfl⟩
    rw [hs1] at hO
    have d0 : w.cell? ⟨b, off, none⟩ = some (.int .i64 k0) := by have := hc0 0 _ rfl; simpa using this
    have d1 : w.cell? ⟨b, off + 1, none⟩ = some (.string s0) := by have := hc0 1 _ rfl; simpa using this
    have d2 : w.cell? ⟨b, off + 2, none⟩ = some (.int .i64 vk) := by have := hc0 2 _ rfl; simpa using this
    have d3 : w.cell? ⟨b, off + 3, none⟩ = some (.int .i64 vn) := by have := hc0 3 _ rfl; simpa using this
    have d4 : w.cell? ⟨b, off + 4, none⟩ = some (.string vs0) := by have := hc0 4 _ rfl; simpa using this
    have Ha1 : Hid (w.cell? ⟨b, off + 5 + 1, none⟩ = some (.string s1)) := Lib.hid (by have := hc1 1 _ rfl; rw [hs1] at this; simpa using this)
    have Hblt := Lib.hid hblt
    have HD := Lib.hid hD
    have Hr : Hid (r.length = n - 2 ∧ n - 2 ≤ 20000) := Lib.hid ⟨by omega, by omega⟩
    have Hcc := Lib.hid (show n - 2 ≤ c - 2 by omega)
    have HNo : Hid (NoT r) := Lib.hid (hno.tail.tail)
    have HWw := Lib.hid hW
    have hd2 : decide ((n : Int) < 2) = false := decide_eq_false (by omega)
    have hn2 : (2 : Int) ≤ n := by omega
    have HO := Lib.hid hO
    obtain ⟨W, hW1⟩ : ∃ W, w.alloc (.cells #[.int .i64 0, .string ⟨#[]⟩, .slice none 0 0] 50) = W := ⟨_, rfl⟩
    have HB0 : Hid (Below w.heap.size w W) := Lib.hid (by rw [← hW1]; exact below_one w _)
    have HK0 : Hid (Bk W w.heap.size #[.int .i64 0, .string ⟨#[]⟩, .slice none 0 0] 50) := Lib.hid (by rw [← hW1]; exact Bk.new w _ _)
    have HF := Lib.hid (doof_c ⟨k0, s0, ⟨vk, vn, vs0⟩⟩ W (HWw.out.below HB0.out HWw.out.lt))
    have HW1 := Lib.hid hW1
    clear hO hs hno hW hc0 hc1 hx0 hx1 hD hrl hn hs1 hW1
    go_enter Tryz.func50, Tryz.ntmps50
    go_wp2_with fail
    rw [HW1.out]
    refine HF.out.mono ?_
    rintro e w1 ⟨rfl, hb⟩
    have HB1 := Lib.hid (below_via HB0.out hb)
    have HK1 := Lib.hid (HK0.out.after hb HK0.out.lt)
    simp only
    clear hb HF HB0 HK0 d0 d1 d2 d3 d4 hd2
    cases hq : doO s0 with
    | none =>
      have hOn : O = none := by rw [← HO.out, hq]; rfl
      subst hOn
      simp only [Option.getD_none, Option.isSome_none]
      have f0 := HK1.out.thaw 0
      have f1 := HK1.out.thaw 1
      have f2 := HK1.out.thaw 2
      have hlK := HK1.out.lt
      have z0 : w1.cell? ⟨w.heap.size, 0, none⟩ = some (.int .i64 0) := HK1.out.cell 0
      have z1 : w1.cell? ⟨w.heap.size, 1, none⟩ = some (.string ⟨#[]⟩) := HK1.out.cell 1
      have z2 : w1.cell? ⟨w.heap.size, 2, none⟩ = some (.slice none 0 0) := HK1.out.cell 2
      clear hq HO
      go_wp2
      refine ret_stm2 (b := w.heap.size) (x := sm0) Tryz.results50 rfl rfl (((HK1.out.set 0 _).set 1 _).set 2 _) rfl ⟨_, rfl, below_putL HB1.out (Nat.le_refl _) [.int .i64 0, .string ⟨#[]⟩, .slice none 0 0] 0, fun _ => ⟨_, rfl⟩, fun s h => (by cases h)⟩
    | some d =>
      have HO1 : Hid (((if d = 2 ∨ d = 3 then inO r else some r).bind fun i => (vsO i).map fun vs => (⟨d, s1, vs⟩ : St)) = O) := Lib.hid (by rw [← HO.out, hq]; rfl)
      simp only [Option.getD_some, Option.isSome_some]
      have HH := Lib.hid (hasrow_c d w1)
      obtain ⟨V, hV⟩ : ∃ V, decide (d = 2 ∨ d = 3) = V := ⟨_, rfl⟩
      rw [hV] at HH
      have HV0 := Lib.hid hV
      clear hV hq HO
      go_wp2_with fail
      refine HH.out.mono ?_
      rintro e wy ⟨rfl, rfl⟩
      clear HH hsl
      cases V
      · have hd : ¬ (d = 2 ∨ d = 3) := of_decide_eq_false HV0.out
        have HOi : Hid ((vsO r).map (fun vs => (⟨d, s1, vs⟩ : St)) = O) := Lib.hid (by have := HO1.out; rw [if_neg hd] at this; exact this)
        have HD1 := Lib.hid (HD.out.after HB1.out)
        clear hd HO1 HV0
        have HV := Lib.hid (valuesof_c D (n - 2) (c - 2) r wy Hr.out.1 Hr.out.2 HD1.out)
        go_wp2_with fail
        refine HV.out.mono ?_
        rintro e w5 ⟨v5, rfl, hs5⟩
        have HB5 := Lib.hid (below_via HB1.out hs5.be)
        have HK5 := Lib.hid (HK1.out.after hs5.be HK1.out.lt)
        have Hsz := Lib.hid (show w.heap.size < wy.heap.size from HK1.out.lt)
        have Hs5 := Lib.hid hs5
        clear hs5 HV
        have f0 := HK5.out.thaw 0
        have f1 := HK5.out.thaw 1
        have f2 := HK5.out.thaw 2
        have hlK := HK5.out.lt
        have z0 : w5.cell? ⟨w.heap.size, 0, none⟩ = some (.int .i64 0) := HK5.out.cell 0
        have z1 : w5.cell? ⟨w.heap.size, 1, none⟩ = some (.string ⟨#[]⟩) := HK5.out.cell 1
        have z2 : w5.cell? ⟨w.heap.size, 2, none⟩ = some (.slice none 0 0) := HK5.out.cell 2
        have a1 : w5.cell? ⟨b, off + 5 + 1, none⟩ = some (.string s1) := (HB5.out.cell (p := ⟨b, off + 5 + 1, none⟩) Hblt.out).trans Ha1.out
        have l1 : b < w5.heap.size := Nat.lt_of_lt_of_le Hblt.out HB5.out.size
        cases hq : vsO r with
        | none =>
          have hOn : O = none := by rw [← HOi.out, hq]; rfl
          obtain rfl := Hs5.out.no hq
          clear hq HOi
          go_wp2
          refine ret_stm2 (b := w.heap.size) (x := ⟨d, s1, ⟨none, 0, 0, []⟩⟩) Tryz.results50 rfl rfl (((HK5.out.set 0 _).set 1 _).set 2 _) rfl ⟨_, rfl, below_putL HB5.out (Nat.le_refl _) [.int .i64 d, .string s1, .slice none 0 0] 0, fun _ => ⟨_, rfl⟩, fun s h => (by rw [hOn] at h; cases h)⟩
        | some vs =>
          have hOs : O = some ⟨d, s1, vs⟩ := by rw [← HOi.out, hq]; rfl
          obtain ⟨h, rfl, hin, hxs, hlo⟩ := Hs5.out.yes vs hq
          have Hin := Lib.hid hin
          have Hlo := Lib.hid hlo
          have Hxs := Lib.hid hxs
          have HOs := Lib.hid hOs
          obtain ⟨hA, hn, hc, hx⟩ := h
          clear hq HOi hin hlo hxs hOs Hs5
          go_wp2
          refine ret_stm2 (b := w.heap.size) (x := ⟨d, s1, ⟨hA, hn, hc, hx⟩⟩) Tryz.results50 rfl rfl (((HK5.out.set 0 _).set 1 _).set 2 _) rfl ⟨_, rfl, below_putL HB5.out (Nat.le_refl _) [.int .i64 d, .string s1, .slice hA hn hc] 0, fun h => (by rw [HOs.out] at h; cases h), fun s h => ⟨⟨d, s1, ⟨hA, hn, hc, hx⟩⟩, rfl, Hin.out.putL Hlo.out Hsz.out [.int .i64 d, .string s1, .slice hA hn hc], ?_, fun k hk => Nat.le_trans (Nat.le_of_lt Hsz.out) (Hlo.out k hk)⟩⟩
          rw [HOs.out] at h
          rw [← Option.some.inj h, ← Hxs.out]
          rfl
      · have hd : d = 2 ∨ d = 3 := of_decide_eq_true HV0.out
        have HO2 : Hid (((inO r).bind fun i => (vsO i).map fun vs => (⟨d, s1, vs⟩ : St)) = O) := Lib.hid (by have := HO1.out; rw [if_pos hd] at this; exact this)
        have HI := Lib.hid (inrow_c D (n - 2) (c - 2) r wy Hr.out.1 Hr.out.2 Hcc.out (HD.out.after HB1.out) HNo.out)
        clear hd HO1 HV0
        go_wp2_with fail
        refine HI.out.mono ?_
        rintro e w3 ⟨v3, rfl, hs3⟩
        have HB3 := Lib.hid (below_via HB1.out hs3.be)
        have HK3 := Lib.hid (HK1.out.after hs3.be HK1.out.lt)
        have Hs3 := Lib.hid hs3
        clear hs3 HI
        cases hq : inO r with
        | none =>
          have hOn : O = none := by rw [← HO2.out, hq]; rfl
          subst hOn
          obtain ⟨u3, rfl⟩ := Hs3.out.no hq
          have f0 := HK3.out.thaw 0
          have f1 := HK3.out.thaw 1
          have f2 := HK3.out.thaw 2
          have hlK := HK3.out.lt
          have z0 : w3.cell? ⟨w.heap.size, 0, none⟩ = some (.int .i64 0) := HK3.out.cell 0
          have z1 : w3.cell? ⟨w.heap.size, 1, none⟩ = some (.string ⟨#[]⟩) := HK3.out.cell 1
          have z2 : w3.cell? ⟨w.heap.size, 2, none⟩ = some (.slice none 0 0) := HK3.out.cell 2
          clear hq HO2 Hs3
          go_wp2
          refine ret_stm2 (b := w.heap.size) (x := sm0) Tryz.results50 rfl rfl (((HK3.out.set 0 _).set 1 _).set 2 _) rfl ⟨_, rfl, below_putL HB3.out (Nat.le_refl _) [.int .i64 0, .string ⟨#[]⟩, .slice none 0 0] 0, fun _ => ⟨_, rfl⟩, fun s h => (by cases h)⟩
        | some ts =>
          have HOi : Hid ((vsO ts).map (fun vs => (⟨d, s1, vs⟩ : St)) = O) := Lib.hid (by rw [← HO2.out, hq]; rfl)
          obtain ⟨h, rfl, hin, hnl, hxs⟩ := Hs3.out.yes ts hq
          obtain ⟨hA, hnn, hcc, hxx⟩ := h
          have hxs : hxx = ts := hxs
          subst hxs
          have HS3 : Hid (SlG w3 hA 5 rdT hxx) := Lib.hid hin.sl
          have HI3 : Hid (hxx.length = hnn ∧ hnn ≤ 20000) := Lib.hid ⟨hin.len, hnl⟩
          clear hq HO2 Hs3 hin hnl
          have HV := Lib.hid (valuesof_c hA hnn hcc hxx w3 HI3.out.1 HI3.out.2 HS3.out)
          go_wp2_with fail
          refine HV.out.mono ?_
          rintro e w5 ⟨v5, rfl, hs5⟩
          have HB5 := Lib.hid (below_via HB3.out hs5.be)
          have HK5 := Lib.hid (HK3.out.after hs5.be HK3.out.lt)
          have Hsz := Lib.hid (show w.heap.size < w3.heap.size from HK3.out.lt)
          have Hs5 := Lib.hid hs5
          clear hs5 HV
          have f0 := HK5.out.thaw 0
          have f1 := HK5.out.thaw 1
          have f2 := HK5.out.thaw 2
          have hlK := HK5.out.lt
          have z0 : w5.cell? ⟨w.heap.size, 0, none⟩ = some (.int .i64 0) := HK5.out.cell 0
          have z1 : w5.cell? ⟨w.heap.size, 1, none⟩ = some (.string ⟨#[]⟩) := HK5.out.cell 1
          have z2 : w5.cell? ⟨w.heap.size, 2, none⟩ = some (.slice none 0 0) := HK5.out.cell 2
          have a1 : w5.cell? ⟨b, off + 5 + 1, none⟩ = some (.string s1) := (HB5.out.cell (p := ⟨b, off + 5 + 1, none⟩) Hblt.out).trans Ha1.out
          have l1 : b < w5.heap.size := Nat.lt_of_lt_of_le Hblt.out HB5.out.size
          cases hq : vsO hxx with
          | none =>
            have hOn : O = none := by rw [← HOi.out, hq]; rfl
            obtain rfl := Hs5.out.no hq
            clear hq HOi
            go_wp2
            refine ret_stm2 (b := w.heap.size) (x := ⟨d, s1, ⟨none, 0, 0, []⟩⟩) Tryz.results50 rfl rfl (((HK5.out.set 0 _).set 1 _).set 2 _) rfl ⟨_, rfl, below_putL HB5.out (Nat.le_refl _) [.int .i64 d, .string s1, .slice none 0 0] 0, fun _ => ⟨_, rfl⟩, fun s h => (by rw [hOn] at h; cases h)⟩
          | some vs =>
            have hOs : O = some ⟨d, s1, vs⟩ := by rw [← HOi.out, hq]; rfl
            obtain ⟨h, rfl, hin, hxs, hlo⟩ := Hs5.out.yes vs hq
            have Hin := Lib.hid hin
            have Hlo := Lib.hid hlo
            have Hxs := Lib.hid hxs
            have HOs := Lib.hid hOs
            obtain ⟨hA, hn, hc, hx⟩ := h
            clear hq HOi hin hlo hxs hOs Hs5
            go_wp2
            refine ret_stm2 (b := w.heap.size) (x := ⟨d, s1, ⟨hA, hn, hc, hx⟩⟩) Tryz.results50 rfl rfl (((HK5.out.set 0 _).set 1 _).set 2 _) rfl ⟨_, rfl, below_putL HB5.out (Nat.le_refl _) [.int .i64 d, .string s1, .slice hA hn hc] 0, fun h => (by rw [HOs.out] at h; cases h), fun s h => ⟨⟨d, s1, ⟨hA, hn, hc, hx⟩⟩, rfl, Hin.out.putL Hlo.out Hsz.out [.int .i64 d, .string s1, .slice hA hn hc], ?_, fun k hk => Nat.le_trans (Nat.le_of_lt Hsz.out) (Hlo.out k hk)⟩⟩
            rw [HOs.out] at h
            rw [← Option.some.inj h, ← Hxs.out]
            rfl
end Go.Proofs.YtjgpmnffagdhlaaGreatDoor
namespace Go.Proofs.YtjgpmnffagdhlaaGreatDoor
open Go Go.RowKit
set_option maxRecDepth 100000
/-- What Parse answers of a text: a number, and a statement. -/
def errS (l : List UInt8) : Int := match lexO l with
  | none => 60
  | some ts => match parseS ts with
    | none => 70
    | some _ => 0
def smO (l : List UInt8) : St := match lexO l with
  | none => st0
  | some ts => (parseS ts).getD st0
theorem lexO_gd {l : List UInt8} {ts : List Tk} (h : lexO l = some ts) : G ts := by
  unfold lexO at h
  split at h
  · exact fun t ht => lex_may l.length l ts (Nat.le_refl _) h t ht
  · cases h
theorem vs_mem : ∀ {l : List Tk} {vs : List Val}, vsO l = some vs → ∀ v ∈ vs, ∃ t ∈ l, vO t = some v
  | [], vs, h, v, hv => by rw [← Option.some.inj h] at hv; cases hv
  | t :: r, vs, h, v, hv => by
    rw [vsO] at h
    cases h1 : vO t with
    | none => rw [h1] at h; cases h
    | some u =>
      rw [h1, Option.bind_some] at h
      cases h2 : vsO r with
      | none => rw [h2] at h; cases h
      | some us =>
        rw [h2] at h
        rw [← Option.some.inj h] at hv
        rcases List.mem_cons.1 hv with rfl | hv
        · exact ⟨t, by simp, h1⟩
        · obtain ⟨t', ht, h3⟩ := vs_mem h2 v hv
          exact ⟨t', List.mem_cons_of_mem _ ht, h3⟩
theorem even_mem : ∀ {l : List Tk} {t : Tk}, t ∈ evenL l → t ∈ l
  | [], _, h => h
  | [_], _, h => h
  | a :: b :: r, t, h => by
    rw [evenL] at h
    rcases List.mem_cons.1 h with rfl | h
    · simp
    · exact List.mem_cons_of_mem _ (List.mem_cons_of_mem _ (even_mem h))
theorem in_mem {l i : List Tk} (h : inO l = some i) {t : Tk} (ht : t ∈ i) : t ∈ l := by
  unfold inO at h
  split at h
  · rw [← Option.some.inj h] at ht
    have := even_mem ht
    unfold midL at this
    exact List.mem_of_mem_drop (List.mem_of_mem_take this)
  · cases h
theorem gd_small {t : Tk} (h : Gd t) : t.t.size ≤ 30 ∧ ∀ v, vO t = some v → v.s.size ≤ 2000 := by
  obtain ⟨k, s, x⟩ := t
  have h := h.1
  unfold mayT at h
  simp only at h
  have hv0 : k ≠ 1 → ∀ v, vO ⟨k, s, x⟩ = some v → v.s.size ≤ 2000 := fun hk v hv => by
    unfold vO at hv
    simp only at hv
    rw [if_neg hk] at hv
    split at hv
    · rw [← Option.some.inj hv]; decide
    split at hv
    · rw [← Option.some.inj hv]; decide
    split at hv
    · rw [← Option.some.inj hv]; decide
    · cases hv
  by_cases h0 : k = 0
  · subst h0
    simp only [beq_self_eq_true, if_true, Bool.and_eq_true] at h
    refine ⟨?_, hv0 (by decide)⟩
    have hw := h.1
    have e : s.size = s.data.toList.length := rfl
    unfold wordB at hw
    split at hw
    · cases hw
    · rename_i c r hc
      simp only [Bool.and_eq_true, decide_eq_true_eq] at hw
      show s.size ≤ 30
      rw [e, hc]; exact hw.1
  rw [if_neg (by simpa using h0)] at h
  by_cases h1 : k = 1
  · subst h1
    simp only [beq_self_eq_true, if_true, Bool.and_eq_true] at h
    refine ⟨by rw [show (⟨1, s, x⟩ : Tk).t = s from rfl, emp_size h.1]; omega, fun v hv => ?_⟩
    unfold vO at hv
    rw [if_pos rfl] at hv
    rw [← Option.some.inj hv]
    exact val_size h.2.2
  rw [if_neg (by simpa using h1)] at h
  refine ⟨?_, hv0 h1⟩
  split at h
  · simp only [Bool.and_eq_true] at h
    have hs := h.1
    have e : s.size = s.data.toList.length := rfl
    unfold signB at hs
    split at hs
    · rename_i c hc
      show s.size ≤ 30
      rw [e, hc]; simp
    · cases hs
  · cases h
theorem stm_small {l : List Tk} {s : St} (hg : G l) (h : stmO l = some s) : (∀ v ∈ s.row, v.s.size ≤ 2000) ∧ s.name.size ≤ 30 := by
  match l, h, hg with
  | [], h, _ => cases h
  | [_], h, _ => cases h
  | t :: a :: r, h, hg =>
    rw [stmO_cons] at h
    cases h1 : doO t.t with
    | none => rw [h1] at h; cases h
    | some d =>
      rw [h1, Option.bind_some] at h
      cases h2 : (if d = 2 ∨ d = 3 then inO r else some r) with
      | none => rw [h2] at h; cases h
      | some i =>
        rw [h2, Option.bind_some] at h
        cases h3 : vsO i with
        | none => rw [h3] at h; cases h
        | some vs =>
          rw [h3] at h
          rw [← Option.some.inj h]
          refine ⟨fun v hv => ?_, (gd_small (hg a (by simp))).1⟩
          obtain ⟨u, hu, h4⟩ := vs_mem h3 v hv
          refine (gd_small (hg u ?_)).2 v h4
          have : u ∈ r := by
            split at h2
            · exact in_mem h2 hu
            · rw [Option.some.inj h2]; exact hu
          simp [this]
theorem errS_eq {l : List UInt8} {ts : List Tk} {o : Option St} (h : lexO l = some ts) (ho : stmO ts = o) : (o = none → errS l = 70 ∧ smO l = st0) ∧ (∀ s, o = some s → (mayS s = false → errS l = 70 ∧ smO l = st0) ∧ (mayS s = true → errS l = 0 ∧ smO l = s)) := by
  have hg := lexO_gd h
  have hp := fun x => parse_stm hg x
  have key : ∀ x, parseS ts = some x ↔ (o = some x ∧ mayS x = true) := fun x => by rw [← ho]; exact hp x
  have none_of : (∀ x, ¬ (o = some x ∧ mayS x = true)) → errS l = 70 ∧ smO l = st0 := fun hn => by
    have : parseS ts = none := by
      cases hq : parseS ts with
      | none => rfl
      | some x => exact absurd ((key x).1 hq) (hn x)
    unfold errS smO
    rw [h]
    simp [this]
  refine ⟨fun ho => none_of fun x hx => (by rw [ho] at hx; cases hx.1), fun s hs => ⟨fun hm => none_of fun x hx => (by rw [hs] at hx; rw [← Option.some.inj hx.1, hm] at hx; cases hx.2), fun hm => ?_⟩⟩
  have := (key s).2 ⟨hs, hm⟩
  unfold errS smO
  rw [h]
  simp [this]
set_option maxHeartbeats 16000000 in
theorem sprs (l : List UInt8) (w : World) (hl : l.length ≤ maxLen) (hG : Gw w.heap.size w) (hW : StW w) (hg : 0 < w.heap.size) :
    Calls Tryz.prog 25 #[.string (ba l)] w fun e w' => ∃ x : Stm, e = .returned (.tuple #[x.w, .int .i64 (errS l)]) ∧ x.In w' ∧ x.st = smO l ∧ Below w.heap.size w w' := by
  obtain ⟨E, hE⟩ : ∃ E, errS l = E := ⟨_, rfl⟩
  obtain ⟨Z, hZ⟩ : ∃ Z, smO l = Z := ⟨_, rfl⟩
  rw [hE, hZ]
  have HE := Lib.hid hE
  have HZ := Lib.hid hZ
  obtain ⟨W, hW1⟩ : ∃ W, w.alloc (.cells #[.int .i64 0, .string ⟨#[]⟩, .slice none 0 0] 50) = W := ⟨_, rfl⟩
  have HB0 : Hid (Below w.heap.size w W) := Lib.hid (by rw [← hW1]; exact below_one w _)
  have HK0 : Hid (Bk W w.heap.size #[.int .i64 0, .string ⟨#[]⟩, .slice none 0 0] 50) := Lib.hid (by rw [← hW1]; exact Bk.new w _ _)
  have HG := Lib.hid hG
  have HWw := Lib.hid hW
  have Hg := Lib.hid hg
  have HX := Lib.hid (lex_c l W hl (hG.below HB0.out).gl)
  have HW1 := Lib.hid hW1
  obtain ⟨s, hs⟩ : ∃ s, ba l = s := ⟨_, rfl⟩
  rw [hs] at HX ⊢
  clear hE hZ hG hW hg hW1 hl hs
  go_enter Tryz.func25, Tryz.ntmps25
  go_wp2_with fail
  rw [HW1.out]
  refine HX.out.mono ?_
  rintro e w1 ⟨v, n, rfl, hx, hb⟩
  have HB1 := Lib.hid (below_via HB0.out hb)
  have HK1 := Lib.hid (HK0.out.after hb HK0.out.lt)
  have Hs0 := Lib.hid (show w.heap.size < w1.heap.size from HK1.out.lt)
  have Hx := Lib.hid hx
  clear hb HX HB0 HK0 hx
  cases hq : lexO l with
  | none =>
    have hx := Hx.out
    rw [hq] at hx
    obtain ⟨rfl, rfl⟩ := hx
    have hE : E = 60 := by rw [← HE.out]; unfold errS; rw [hq]
    have hZ : Z = st0 := by rw [← HZ.out]; unfold smO; rw [hq]
    subst hE hZ
    clear hq Hx HE HZ
    have f0 := HK1.out.thaw 0
    have f1 := HK1.out.thaw 1
    have f2 := HK1.out.thaw 2
    have hlK := HK1.out.lt
    have z0 : w1.cell? ⟨w.heap.size, 0, none⟩ = some (.int .i64 0) := HK1.out.cell 0
    have z1 : w1.cell? ⟨w.heap.size, 1, none⟩ = some (.string ⟨#[]⟩) := HK1.out.cell 1
    have z2 : w1.cell? ⟨w.heap.size, 2, none⟩ = some (.slice none 0 0) := HK1.out.cell 2
    go_wp2
    refine ret_stm2 (b := w.heap.size) (x := sm0) Tryz.results25 rfl rfl (((HK1.out.set 0 _).set 1 _).set 2 _) rfl ⟨sm0, rfl, sm0_in _, rfl, below_putL HB1.out (Nat.le_refl _) [.int .i64 0, .string ⟨#[]⟩, .slice none 0 0] 0⟩
  | some ts =>
    have hx := Hx.out
    rw [hq] at hx
    obtain ⟨rfl, ho, hlen⟩ := hx
    obtain ⟨A, c, rfl, hc1, hc2, hsl⟩ := ho.sl tOk.len
    have hgd := lexO_gd hq
    have HS := Lib.hid (stmt_c A ts.length c ts w1 rfl hlen hc1 hsl (gd_not hgd) (HWw.out.below HB1.out Hg.out))
    obtain ⟨O, hO⟩ : ∃ O, stmO ts = O := ⟨_, rfl⟩
    rw [hO] at HS
    have HQ := Lib.hid (errS_eq hq hO)
    obtain ⟨n, hn⟩ : ∃ n, ts.length = n := ⟨_, rfl⟩
    rw [hn] at HS ⊢
    have Hsml0 : Hid (∀ s, O = some s → (∀ v ∈ s.row, v.s.size ≤ 2000) ∧ s.name.size ≤ 30) := Lib.hid (fun s hs => stm_small hgd (hO.trans hs))
    clear ho hlen hc1 hc2 hsl hgd hO hq Hx hn
    go_wp2_with fail
    refine HS.out.mono ?_
    rintro e w2 ⟨v2, rfl, hs2⟩
    have HB2 := Lib.hid (below_via HB1.out hs2.be)
    have HK2 := Lib.hid (HK1.out.after hs2.be HK1.out.lt)
    have Hs2 := Lib.hid hs2
    clear hs2 HS HK1
    cases O with
    | none =>
      obtain ⟨y, rfl⟩ := Hs2.out.no rfl
      obtain ⟨hE, hZ⟩ := HQ.out.1 rfl
      obtain rfl : E = 70 := HE.out.symm.trans hE
      obtain rfl : Z = st0 := HZ.out.symm.trans hZ
      obtain ⟨yk, ynm, ⟨yA, yn, yc, yx⟩⟩ := y
      clear Hs2 HQ hE hZ HE HZ
      have f0 := HK2.out.thaw 0
      have f1 := HK2.out.thaw 1
      have f2 := HK2.out.thaw 2
      have hlK := HK2.out.lt
      have z0 : w2.cell? ⟨w.heap.size, 0, none⟩ = some (.int .i64 0) := HK2.out.cell 0
      have z1 : w2.cell? ⟨w.heap.size, 1, none⟩ = some (.string ⟨#[]⟩) := HK2.out.cell 1
      have z2 : w2.cell? ⟨w.heap.size, 2, none⟩ = some (.slice none 0 0) := HK2.out.cell 2
      go_wp2
      refine ret_stm2 (b := w.heap.size) (x := sm0) Tryz.results25 rfl rfl ((((HK2.out.set 0 _).set 1 _).set 2 _).alloc _) rfl ⟨sm0, rfl, sm0_in _, rfl, below_al (below_putL HB2.out (Nat.le_refl _) [.int .i64 0, .string ⟨#[]⟩, .slice none 0 0] 0) _⟩
    | some st =>
      obtain ⟨y, rfl, hin, hst, hlo⟩ := Hs2.out.yes st rfl
      have hQ := HQ.out.2 st rfl
      have Hin := Lib.hid hin
      have Hsml := Lib.hid (Hsml0.out st rfl)
      have Hlo := Lib.hid hlo
      have Hst := Lib.hid hst
      have HSm : Hid ((∀ v ∈ y.row.xs, v.s.size ≤ 2000) ∧ y.name.size ≤ 30) := Lib.hid (by
        have h := Hsml.out
        rw [← hst] at h
        exact h)
      obtain ⟨yk, ynm, ⟨yA, yn, yc, yx⟩⟩ := y
      obtain ⟨W3, hW3⟩ : ∃ W3, w2.alloc (.cells #[.int .i64 yk, .string ynm, .slice yA yn yc] 50) = W3 := ⟨_, rfl⟩
      have HB3 : Hid (Below w.heap.size w W3) := Lib.hid (by rw [← hW3]; exact below_al HB2.out _)
      have HK3 : Hid (Bk W3 w.heap.size #[.int .i64 0, .string ⟨#[]⟩, .slice none 0 0] 50) := Lib.hid (by rw [← hW3]; exact HK2.out.after (below_one w2 _) HK2.out.lt)
      have HY3 : Hid (BkS W3 w2.heap.size ⟨yk, ynm, ⟨yA, yn, yc, yx⟩⟩) := Lib.hid (by rw [← hW3]; exact Bk.new w2 _ _)
      have HI3 : Hid ((⟨yk, ynm, ⟨yA, yn, yc, yx⟩⟩ : Stm).In W3) := Lib.hid (by rw [← hW3]; exact hin.after (below_one w2 _))
      have HM := Lib.hid (smay_c ⟨yk, ynm, ⟨yA, yn, yc, yx⟩⟩ W3 ((HG.out.below HB3.out).up HB3.out.size) HI3.out (fun v hv => by have := HSm.out.1 v hv; unfold maxLen; omega) (by have := HSm.out.2; simp only at this ⊢; omega))
      rw [hst] at HM
      have HW3 := Lib.hid hW3
      have y0 : W3.cell? ⟨w2.heap.size, 0, none⟩ = some (.int .i64 yk) := HY3.out.cell 0
      have y1 : W3.cell? ⟨w2.heap.size, 1, none⟩ = some (.string ynm) := HY3.out.cell 1
      have y2 : W3.cell? ⟨w2.heap.size, 2, none⟩ = some (.slice yA yn yc) := HY3.out.cell 2
      have hly := HY3.out.lt
      clear hW3 hin hlo hst Hs2 HQ HSm Hsml
      go_wp2_with fail
      rw [HW3.out]
      go_wp2_with fail
      refine HM.out.mono ?_
      rintro e w4 ⟨rfl, hb4⟩
      have HB4 := Lib.hid (below_via HB3.out hb4)
      have HK4 := Lib.hid (HK3.out.after hb4 HK3.out.lt)
      have HY4 := Lib.hid (Bk.after HY3.out hb4 HY3.out.lt)
      have HI4 := Lib.hid (HI3.out.after hb4)
      have Hsz2 := Lib.hid (show w.heap.size < w2.heap.size from HK2.out.lt)
      clear hb4 HM y0 y1 y2 hly HK3 HY3 HI3 HK2
      cases hms : mayS st
      · obtain ⟨hE, hZ⟩ := hQ.1 hms
        obtain rfl : E = 70 := HE.out.symm.trans hE
        obtain rfl : Z = st0 := HZ.out.symm.trans hZ
        clear hQ hE hZ HE HZ hms
        have f0 := HK4.out.thaw 0
        have f1 := HK4.out.thaw 1
        have f2 := HK4.out.thaw 2
        have hlK := HK4.out.lt
        have z0 : w4.cell? ⟨w.heap.size, 0, none⟩ = some (.int .i64 0) := HK4.out.cell 0
        have z1 : w4.cell? ⟨w.heap.size, 1, none⟩ = some (.string ⟨#[]⟩) := HK4.out.cell 1
        have z2 : w4.cell? ⟨w.heap.size, 2, none⟩ = some (.slice none 0 0) := HK4.out.cell 2
        go_wp2
        refine ret_stm2 (b := w.heap.size) (x := sm0) Tryz.results25 rfl rfl (((HK4.out.set 0 _).set 1 _).set 2 _) rfl ⟨sm0, rfl, sm0_in _, rfl, below_putL HB4.out (Nat.le_refl _) [.int .i64 0, .string ⟨#[]⟩, .slice none 0 0] 0⟩
      · obtain ⟨hE, hZ⟩ := hQ.2 hms
        obtain rfl : E = 0 := HE.out.symm.trans hE
        obtain rfl : Z = st := HZ.out.symm.trans hZ
        clear hQ hE hZ HE HZ hms
        have y0 : w4.cell? ⟨w2.heap.size, 0, none⟩ = some (.int .i64 yk) := HY4.out.cell 0
        have y1 : w4.cell? ⟨w2.heap.size, 1, none⟩ = some (.string ynm) := HY4.out.cell 1
        have y2 : w4.cell? ⟨w2.heap.size, 2, none⟩ = some (.slice yA yn yc) := HY4.out.cell 2
        have hly := HY4.out.lt
        have f0 := HK4.out.thaw 0
        have f1 := HK4.out.thaw 1
        have f2 := HK4.out.thaw 2
        have hlK := HK4.out.lt
        have z0 : w4.cell? ⟨w.heap.size, 0, none⟩ = some (.int .i64 0) := HK4.out.cell 0
        have z1 : w4.cell? ⟨w.heap.size, 1, none⟩ = some (.string ⟨#[]⟩) := HK4.out.cell 1
        have z2 : w4.cell? ⟨w.heap.size, 2, none⟩ = some (.slice none 0 0) := HK4.out.cell 2
        go_wp2
        refine ret_stm2 (b := w.heap.size) (x := ⟨yk, ynm, ⟨yA, yn, yc, yx⟩⟩) Tryz.results25 rfl rfl (((HK4.out.set 0 _).set 1 _).set 2 _) rfl ⟨⟨yk, ynm, ⟨yA, yn, yc, yx⟩⟩, rfl, Sx.In.putL (B := w.heap.size + 1) HI4.out (fun k hk => by have := Hlo.out k hk; have := Hs0.out; omega) (Nat.lt_succ_self _) [.int .i64 yk, .string ynm, .slice yA yn yc], Hst.out, below_putL HB4.out (Nat.le_refl _) [.int .i64 yk, .string ynm, .slice yA yn yc] 0⟩
end Go.Proofs.YtjgpmnffagdhlaaGreatDoor
namespace Go.Proofs.YtjgpmnffagdhlaaGreatDoor
open Go Go.RowKit
/-- The order of values. -/
def cmpV (x y : Val) : Int := if x.k != y.k then Lib.compareInt x.k y.k else if x.n != y.n then Lib.compareInt x.n y.n else Lib.compareBytes x.s.data.toList y.s.data.toList
theorem bl_eq : ∀ x y : List UInt8, Lib.compareBytes x y = if Op.bytesLess x y then -1 else if (Op.bytesLess x y || x == y) then 0 else 1
  | [], [] => rfl
  | [], _ :: _ => rfl
  | _ :: _, [] => rfl
  | a :: x, b :: y => by
    rw [Lib.compareBytes, Op.bytesLess, bl_eq x y]
    by_cases h1 : a < b
    · simp [h1]
    · by_cases h2 : b < a
      · have hne : a ≠ b := by rintro rfl; exact h1 h2
        have e : (a == b) = false := by simpa using hne
        simp [h1, h2, e]
      · have heq : a = b := by rw [UInt8.lt_iff_toNat_lt] at h1 h2; exact UInt8.toNat_inj.1 (by omega)
        subst heq
        simp [h1]
set_option maxHeartbeats 400000 in
theorem rcompare_k (x y : Val) (w : World) (h1 : (x.k != y.k) = true) : Calls Tryz.prog 117 #[x.v, y.v] w fun e w' => e = .returned (.int .i64 (Lib.compareInt x.k y.k)) ∧ Below w.heap.size w w' := by
  cases h : decide (x.k < y.k)
  · have e : Lib.compareInt x.k y.k = 1 := by
      have := of_decide_eq_false h
      have hne : x.k ≠ y.k := by simpa using h1
      unfold Lib.compareInt
      rw [if_neg this, if_pos (by omega)]
    rw [e]
    clear e
    go_enter Tryz.func117, Tryz.ntmps117
    go_wp2
    go_ret
    exact ⟨rfl, below_two _ _ _⟩
  · have e : Lib.compareInt x.k y.k = -1 := by
      unfold Lib.compareInt
      rw [if_pos (of_decide_eq_true h)]
    rw [e]
    clear e
    go_enter Tryz.func117, Tryz.ntmps117
    go_wp2
    go_ret
    exact ⟨rfl, below_two _ _ _⟩
set_option maxHeartbeats 400000 in
theorem rcompare_n (x y : Val) (w : World) (h0 : (x.k != y.k) = false) (h1 : (x.n != y.n) = true) : Calls Tryz.prog 117 #[x.v, y.v] w fun e w' => e = .returned (.int .i64 (Lib.compareInt x.n y.n)) ∧ Below w.heap.size w w' := by
  cases h : decide (x.n < y.n)
  · have e : Lib.compareInt x.n y.n = 1 := by
      have := of_decide_eq_false h
      have hne : x.n ≠ y.n := by simpa using h1
      unfold Lib.compareInt
      rw [if_neg this, if_pos (by omega)]
    rw [e]
    clear e
    go_enter Tryz.func117, Tryz.ntmps117
    go_wp2
    go_ret
    exact ⟨rfl, below_two _ _ _⟩
  · have e : Lib.compareInt x.n y.n = -1 := by
      unfold Lib.compareInt
      rw [if_pos (of_decide_eq_true h)]
    rw [e]
    clear e
    go_enter Tryz.func117, Tryz.ntmps117
    go_wp2
    go_ret
    exact ⟨rfl, below_two _ _ _⟩
set_option maxHeartbeats 400000 in
theorem rcompare_s (x y : Val) (w : World) (h0 : (x.k != y.k) = false) (h1 : (x.n != y.n) = false) : Calls Tryz.prog 117 #[x.v, y.v] w fun e w' => e = .returned (.int .i64 (Lib.compareBytes x.s.data.toList y.s.data.toList)) ∧ Below w.heap.size w w' := by
  have e := bl_eq x.s.toList y.s.toList
  rw [ByteArray.toList_eq, ByteArray.toList_eq] at e
  rw [e]
  clear e
  rw [← ByteArray.toList_eq, ← ByteArray.toList_eq]
  cases h : Op.bytesLess x.s.toList y.s.toList
  · cases h2 : x.s.toList == y.s.toList
    · go_enter Tryz.func117, Tryz.ntmps117
      go_wp2
      go_ret
      exact ⟨rfl, below_two _ _ _⟩
    · go_enter Tryz.func117, Tryz.ntmps117
      go_wp2
      go_ret
      exact ⟨rfl, below_two _ _ _⟩
  · go_enter Tryz.func117, Tryz.ntmps117
    go_wp2
    go_ret
    exact ⟨rfl, below_two _ _ _⟩
theorem rcompare_c (x y : Val) (w : World) : Calls Tryz.prog 117 #[x.v, y.v] w fun e w' => e = .returned (.int .i64 (cmpV x y)) ∧ Below w.heap.size w w' := by
  unfold cmpV
  cases h1 : x.k != y.k
  · cases h2 : x.n != y.n
    · exact rcompare_s x y w h1 h2
    · exact rcompare_n x y w h1 h2
  · exact rcompare_k x y w h1
end Go.Proofs.YtjgpmnffagdhlaaGreatDoor
namespace Go.Proofs.YtjgpmnffagdhlaaGreatDoor
open Go Go.RowKit
/-- The order of lists of values. -/
def cmpL : List Val → List Val → Int
  | [], [] => 0
  | [], _ :: _ => -1
  | _ :: _, [] => 1
  | x :: a, y :: b => if cmpV x y != 0 then cmpV x y else cmpL a b
theorem cmpL_nil_right (a : List Val) : cmpL a [] = if a.length = 0 then 0 else 1 := by cases a <;> simp [cmpL]
theorem cmpL_nil_left (a : List Val) : cmpL [] a = if a.length = 0 then 0 else -1 := by cases a <;> simp [cmpL]
theorem cmpL_drop (a b : List Val) (k : Nat) (x y : Val) (hx : a[k]? = some x) (hy : b[k]? = some y) :
    cmpL (a.drop k) (b.drop k) = if cmpV x y != 0 then cmpV x y else cmpL (a.drop (k + 1)) (b.drop (k + 1)) := by
  have h1 := List.drop_eq_getElem_cons (List.getElem?_eq_some_iff.1 hx).1
  have h2 := List.drop_eq_getElem_cons (List.getElem?_eq_some_iff.1 hy).1
  rw [(List.getElem?_eq_some_iff.1 hx).2] at h1
  rw [(List.getElem?_eq_some_iff.1 hy).2] at h2
  rw [h1, h2, cmpL]
/-- What a slice that reads as xs reads at k. -/
theorem Sl.at {w : World} {A : Option Addr} {xs : List Val} (h : Sl w A xs) {k : Nat} (hk : k < xs.length) :
    ∃ b off x, A = some ⟨b, off, none⟩ ∧ b < w.heap.size ∧ xs[k]? = some x ∧ w.cell? ⟨b, off + k * 3, none⟩ = some (.int .i64 x.k) ∧ w.cell? ⟨b, off + k * 3 + 1, none⟩ = some (.int .i64 x.n) ∧ w.cell? ⟨b, off + k * 3 + 2, none⟩ = some (.string x.s) := by
  rcases h with rfl | ⟨b, off, hA, hlt, h⟩
  · simp at hk
  · have := h k xs[k] (List.getElem?_eq_getElem hk)
    exact ⟨b, off, xs[k], hA, hlt, List.getElem?_eq_getElem hk, this⟩
end Go.Proofs.YtjgpmnffagdhlaaGreatDoor
namespace Go.Proofs.YtjgpmnffagdhlaaGreatDoor
open Go Go.RowKit
set_option maxRecDepth 100000
theorem ev_index {F : Act} {w : World} {t u : Tmp} {b off n c k : Nat} {o : Oper} (hk : k < n) (ho : o.op = .indexAddr 47 (.tmp t) (.tmp u)) (ht : Reg.slot F t = .slice (some ⟨b, off, none⟩) n c) (hu : Reg.slot F u = .int .i64 k) :
    (execOp F.eval o).run Tryz.prog w = .ok (.value (.pointer (some ⟨b, off + k * 3, none⟩))) w := by
  have e1 : F.eval (.tmp t) = .slice (some ⟨b, off, none⟩) n c := ht
  have e2 : F.eval (.tmp u) = .int .i64 k := hu
  have e0 : (execOp F.eval o).run Tryz.prog w = ((Instr.indexAt 47 (.slice (some ⟨b, off, none⟩) n c) (.int .i64 k)).run Tryz.prog w).andThen fun v w' => .ok (.value v) w' := by
    simp only [execOp, ho, e1, e2, Sem.run_bind, Sem.run_pure]
  rw [e0]
  go_simp
theorem ev_load3 {F : Act} {w : World} {b off : Nat} {a : Val} {t : Tmp} {o : Oper} (h0 : w.cell? ⟨b, off, none⟩ = some (.int .i64 a.k)) (h1 : w.cell? ⟨b, off + 1, none⟩ = some (.int .i64 a.n)) (h2 : w.cell? ⟨b, off + 2, none⟩ = some (.string a.s))
    (ho : o.op = .load 59 (.tmp t)) (ht : Reg.slot F t = .pointer (some ⟨b, off, none⟩)) :
    (execOp F.eval o).run Tryz.prog w = .ok (.value a.v) w := by
  have e : F.eval (.tmp t) = .pointer (some ⟨b, off, none⟩) := ht
  have e0 : (execOp F.eval o).run Tryz.prog w = ((Instr.loadAt 59 (.pointer (some ⟨b, off, none⟩))).run Tryz.prog w).andThen fun v w' => .ok (.value v) w' := by
    simp only [execOp, ho, e, Sem.run_bind, Sem.run_pure]
  rw [e0]
  go_simp
theorem enrCompare : ∀ args w, (callFunc 117 args).run Tryz.prog w = .ok (.enter 117 args) w := fun _ _ => by kernel_rfl
set_option maxHeartbeats 2000000 in
theorem rcompareL_c (A B : Option Addr) (n m c d : Nat) (xs ys : List Val) (w : World) (hn : xs.length = n) (hm : ys.length = m) (hn1 : n ≤ maxLen) (hm1 : m ≤ maxLen) (hs : Sl w A xs) (ht : Sl w B ys) :
    Calls Tryz.prog 81 #[.slice A n c, .slice B m d] w fun e w' => e = .returned (.int .i64 (cmpL xs ys)) ∧ Below w.heap.size w w' := by
  unfold maxLen at hn1 hm1
  have Hn := Lib.hid hn
  have Hm := Lib.hid hm
  have Hs := Lib.hid hs
  have Ht := Lib.hid ht
  clear hn hm hs ht
  go_enter Tryz.func81, Tryz.ntmps81
  go_wp2_with fail
  go_loopw [5] (fun i wr => ∃ k : Nat, k ≤ n ∧ k ≤ m ∧ i = .int .i64 k ∧ Below w.heap.size w wr ∧ Hid (cmpL (xs.drop k) (ys.drop k) = cmpL xs ys)) (fun i _ => n - (intOf i).toNat)
  case atStart => exact ⟨0, Nat.zero_le _, Nat.zero_le _, rfl, Below.refl _ _, rfl⟩
  case round =>
    obtain ⟨k, hk, hkm, rfl, hb, hinv⟩ := hrel
    by_cases hlt : k < n
    · by_cases hlt2 : k < m
      · obtain ⟨b, off, x, rfl, hblt, hx, c0, c1, c2⟩ := Hs.out.at (by rw [Hn.out]; exact hlt)
        have d0 : Hid _ := (hb.cell (p := ⟨b, off + k * 3, none⟩) hblt).trans c0
        have d1 : Hid _ := (hb.cell (p := ⟨b, off + k * 3 + 1, none⟩) hblt).trans c1
        have d2 : Hid _ := (hb.cell (p := ⟨b, off + k * 3 + 2, none⟩) hblt).trans c2
        have Hx := Lib.hid hx
        clear c0 c1 c2 hx
        have l1 := hb.size
        obtain ⟨b', off', y, rfl, hblt', hy, c0, c1, c2⟩ := Ht.out.at (by rw [Hm.out]; exact hlt2)
        have d3 : Hid _ := (hb.cell (p := ⟨b', off' + k * 3, none⟩) hblt').trans c0
        have d4 : Hid _ := (hb.cell (p := ⟨b', off' + k * 3 + 1, none⟩) hblt').trans c1
        have d5 : Hid _ := (hb.cell (p := ⟨b', off' + k * 3 + 2, none⟩) hblt').trans c2
        have Hy := Lib.hid hy
        clear c0 c1 c2 hy
        have l2 : b' < wr.heap.size := by omega
        have l3 : b < wr.heap.size := by omega
        have hstep := cmpL_drop xs ys k x y Hx.out Hy.out
        have Hst := Lib.hid (hstep.symm.trans hinv.out)
        clear hstep hinv
        go_wp2_with fail
        refine Reg.wp_region_vals mixed (by kernel_rfl) [(19, .slice (some ⟨b, off, none⟩) n c), (20, .int .i64 k), (21, .pointer (some ⟨b, off + k * 3, none⟩)), (22, x.v), (23, .slice (some ⟨b', off', none⟩) m d), (24, .int .i64 k), (25, .pointer (some ⟨b', off' + k * 3, none⟩)), (26, y.v), (27, .int .i64 (cmpV x y)), (6, .int .i64 (cmpV x y))] 41 rfl (by kernel_rfl) ?_ ?_
        · intro F hF w' hB
          have e0 := (hB.cell (p := ⟨b, off + k * 3, none⟩) l3).trans d0.out
          have e1 := (hB.cell (p := ⟨b, off + k * 3 + 1, none⟩) l3).trans d1.out
          have e2 := (hB.cell (p := ⟨b, off + k * 3 + 2, none⟩) l3).trans d2.out
          have e3 := (hB.cell (p := ⟨b', off' + k * 3, none⟩) l2).trans d3.out
          have e4 := (hB.cell (p := ⟨b', off' + k * 3 + 1, none⟩) l2).trans d4.out
          have e5 := (hB.cell (p := ⟨b', off' + k * 3 + 2, none⟩) l2).trans d5.out
          refine ⟨?_, ?_, ?_, ?_, ?_, ?_, ?_, ?_, ?_, ?_, trivial⟩
          · exact Reg.doesV_val (ev_move rfl) (by rw [hF]; kernel_rfl) (by rw [hF]; kernel_rfl)
          · exact Reg.doesV_val (ev_move rfl) (by rw [hF]; kernel_rfl) (by rw [hF]; kernel_rfl)
          · exact Reg.doesV_val (ev_index (b := b) (off := off) (c := c) hlt rfl (by rw [hF]; kernel_rfl) (by rw [hF]; kernel_rfl)) (by rw [hF]; kernel_rfl) (by rw [hF]; kernel_rfl)
          · exact Reg.doesV_val (ev_load3 e0 e1 e2 rfl (by rw [hF]; kernel_rfl)) (by rw [hF]; kernel_rfl) (by rw [hF]; kernel_rfl)
          · exact Reg.doesV_val (ev_move rfl) (by rw [hF]; kernel_rfl) (by rw [hF]; kernel_rfl)
          · exact Reg.doesV_val (ev_move rfl) (by rw [hF]; kernel_rfl) (by rw [hF]; kernel_rfl)
          · exact Reg.doesV_val (ev_index (b := b') (off := off') (c := d) hlt2 rfl (by rw [hF]; kernel_rfl) (by rw [hF]; kernel_rfl)) (by rw [hF]; kernel_rfl) (by rw [hF]; kernel_rfl)
          · exact Reg.doesV_val (ev_load3 e3 e4 e5 rfl (by rw [hF]; kernel_rfl)) (by rw [hF]; kernel_rfl) (by rw [hF]; kernel_rfl)
          · exact Reg.doesV_call (rcompare_c x y w') (ev_call enrCompare rfl (by rw [hF]; kernel_rfl)) (by rw [hF]; kernel_rfl) (by rw [hF]; kernel_rfl)
          · exact Reg.doesV_val (ev_assign rfl) (by rw [hF]; kernel_rfl) (by rw [hF]; kernel_rfl)
        · intro w2 hB
          simp only [Reg.putAll, Act.put, List.setIfInBounds_toArray, List.set_cons_zero, List.set_cons_succ]
          have hb2 := hb.trans (hB.mono hb.size)
          clear hB hb l1 l2 l3 d0 d1 d2 d3 d4 d5
          cases hc : cmpV x y != 0
          · have Hst' : Hid (cmpL (xs.drop (k + 1)) (ys.drop (k + 1)) = cmpL xs ys) := by have := Hst.out; rw [hc] at this; exact this
            clear Hst
            go_wp2
            go_roundw
            case rel => exact ⟨k + 1, by omega, by omega, by go_num, hb2, Hst'.out⟩
            case measure => simp [intOf]; omega
          · have Hst' : Hid (cmpV x y = cmpL xs ys) := by have := Hst.out; rw [hc] at this; exact this
            clear Hst
            go_wp2
            go_ret
            exact ⟨congrArg (fun z => Ending.returned (Value.int .i64 z)) Hst'.out, hb2⟩
      · obtain rfl : k = m := by omega
        have Hst : Hid (1 = cmpL xs ys) := by
          have := hinv.out
          rw [show ys.drop k = [] from List.drop_eq_nil_of_le (by rw [Hm.out]; omega), cmpL_nil_right, if_neg (by rw [List.length_drop, Hn.out]; omega)] at this
          exact this
        clear hinv
        go_wp2
        go_ret
        exact ⟨congrArg (fun z => Ending.returned (Value.int .i64 z)) Hst.out, hb⟩
    · obtain rfl : k = n := by omega
      by_cases hlt2 : k < m
      · have Hst : Hid (-1 = cmpL xs ys) := by
          have := hinv.out
          rw [show xs.drop k = [] from List.drop_eq_nil_of_le (by rw [Hn.out]; omega), cmpL_nil_left, if_neg (by rw [List.length_drop, Hm.out]; omega)] at this
          exact this
        clear hinv
        go_wp2
        go_ret
        exact ⟨congrArg (fun z => Ending.returned (Value.int .i64 z)) Hst.out, hb⟩
      · have Hst : Hid (0 = cmpL xs ys) := by
          have := hinv.out
          rw [show xs.drop k = [] from List.drop_eq_nil_of_le (by rw [Hn.out]; omega), cmpL_nil_left, if_pos (by rw [List.length_drop, Hm.out]; omega)] at this
          exact this
        obtain rfl : k = m := by omega
        clear hinv
        go_wp2
        go_ret
        exact ⟨congrArg (fun z => Ending.returned (Value.int .i64 z)) Hst.out, hb⟩
set_option maxHeartbeats 400000 in
theorem same_c (A B : Option Addr) (n m c d : Nat) (xs ys : List Val) (w : World) (hn : xs.length = n) (hm : ys.length = m) (hn1 : n ≤ maxLen) (hm1 : m ≤ maxLen) (hs : Sl w A xs) (ht : Sl w B ys) :
    Calls Tryz.prog 51 #[.slice A n c, .slice B m d] w fun e w' => e = .returned (.bool (cmpL xs ys == 0)) ∧ Below w.heap.size w w' := by
  have Hn := Lib.hid hn
  have Hm := Lib.hid hm
  have Hs := Lib.hid hs
  have Ht := Lib.hid ht
  clear hn hm hs ht
  go_enter Tryz.func51, Tryz.ntmps51
  go_wp2_with fail
  refine (rcompareL_c A B n m c d xs ys w Hn.out Hm.out hn1 hm1 Hs.out Ht.out).mono ?_
  rintro e w1 ⟨rfl, hb1⟩
  go_wp2
  go_ret
  exact ⟨rfl, hb1⟩
/-- Is a list short? -/
def shortB (xs : List Val) : Bool := xs.all (fun x => decide (x.s.size ≤ 1000)) && decide (xs.length ≤ 40)
theorem all_dropV (p : Val → Bool) (xs : List Val) (k : Nat) (x : Val) (hx : xs[k]? = some x) : (xs.drop k).all p = (p x && (xs.drop (k + 1)).all p) := by
  have h1 := List.drop_eq_getElem_cons (List.getElem?_eq_some_iff.1 hx).1
  rw [(List.getElem?_eq_some_iff.1 hx).2] at h1
  rw [h1, List.all_cons]
set_option maxHeartbeats 2000000 in
theorem short_c (A : Option Addr) (n c : Nat) (xs : List Val) (w : World) (hn : xs.length = n) (hn1 : n ≤ maxLen) (hs : Sl w A xs) (hz : ∀ x ∈ xs, x.s.size ≤ maxLen) :
    Calls Tryz.prog 42 #[.slice A n c] w fun e w' => e = .returned (.bool (shortB xs)) ∧ Below w.heap.size w w' := by
  unfold maxLen at hn1 hz
  have Hn := Lib.hid hn
  have Hs := Lib.hid hs
  have Hz := Lib.hid hz
  clear hn hs hz
  go_enter Tryz.func42, Tryz.ntmps42
  go_wp2_with fail
  go_loop [3] (fun i => ∃ k : Nat, k ≤ n ∧ i = .int .i64 k ∧ Hid ((xs.drop k).all (fun x => decide (x.s.size ≤ 1000)) = xs.all (fun x => decide (x.s.size ≤ 1000)))) (fun i => n - (intOf i).toNat)
  case atStart => exact ⟨0, Nat.zero_le _, rfl, rfl⟩
  case round =>
    obtain ⟨k, hk, rfl, hinv⟩ := hrel
    by_cases hlt : k < n
    · obtain ⟨b, off, x, rfl, hblt, hx, c0, c1, c2⟩ := Hs.out.at (by rw [Hn.out]; exact hlt)
      have hxz := Hz.out x (List.mem_of_getElem? hx)
      have Hst := Lib.hid ((all_dropV (fun x => decide (x.s.size ≤ 1000)) xs k x hx).symm.trans hinv.out)
      clear hinv hx
      by_cases hz : x.s.size ≤ 1000
      · have hz2 : decide (1000 < (x.s.size : Int)) = false := decide_eq_false (by omega)
        have Hst' : Hid ((xs.drop (k + 1)).all (fun x => decide (x.s.size ≤ 1000)) = xs.all (fun x => decide (x.s.size ≤ 1000))) := by
          have := Hst.out
          rw [show decide (x.s.size ≤ 1000) = true from decide_eq_true hz, Bool.true_and] at this
          exact this
        clear Hst
        go_wp2
        go_round
        case rel => exact ⟨k + 1, by omega, by go_num, Hst'.out⟩
        case measure => simp [intOf]; omega
      · have hz2 : decide (1000 < (x.s.size : Int)) = true := decide_eq_true (by omega)
        have Hst' : Hid (false = shortB xs) := by
          have := Hst.out
          rw [show decide (x.s.size ≤ 1000) = false from decide_eq_false hz, Bool.false_and] at this
          unfold shortB
          rw [← this]
          rfl
        clear Hst
        go_wp2
        go_ret
        exact ⟨congrArg (fun z => Ending.returned (Value.bool z)) Hst'.out, Below.refl _ _⟩
    · obtain rfl : k = n := by omega
      have Hst' : Hid (decide ((k : Int) ≤ 40) = shortB xs) := by
        have := hinv.out
        rw [show xs.drop k = [] from List.drop_eq_nil_of_le (by rw [Hn.out]; omega)] at this
        unfold shortB
        rw [← this, Hn.out]
        simp only [List.all_nil, Bool.true_and]
        exact decide_eq_decide.2 (by omega)
      clear hinv
      go_wp2
      go_ret
      exact ⟨congrArg (fun z => Ending.returned (Value.bool z)) Hst'.out, Below.refl _ _⟩
end Go.Proofs.YtjgpmnffagdhlaaGreatDoor
namespace Go.Proofs.YtjgpmnffagdhlaaGreatDoor
open Go
theorem cb_eq : ∀ a b : List UInt8, Lib.compareBytes a b = 0 → a = b
  | [], [], _ => rfl
  | [], _ :: _, h => by cases h
  | _ :: _, [], h => by cases h
  | a :: al, b :: bs, h => by
    rw [Lib.compareBytes] at h
    by_cases h1 : a < b
    · rw [if_pos h1] at h; cases h
    · by_cases h2 : b < a
      · rw [if_neg h1, if_pos h2] at h; cases h
      · rw [if_neg h1, if_neg h2] at h
        have : a = b := by rw [UInt8.lt_iff_toNat_lt] at h1 h2; exact UInt8.toNat_inj.1 (by omega)
        rw [this, cb_eq al bs h]
theorem cb_self : ∀ a : List UInt8, Lib.compareBytes a a = 0
  | [] => rfl
  | a :: al => by
    have h : ¬ a < a := by rw [UInt8.lt_iff_toNat_lt]; omega
    rw [Lib.compareBytes, if_neg h, if_neg h]; exact cb_self al
theorem ci_zero {a b : Int} : Lib.compareInt a b = 0 ↔ a = b := by
  unfold Lib.compareInt; split
  · simp; omega
  · split
    · simp; omega
    · simp; omega
theorem cmp_zero {x y : Val} : cmpV x y = 0 ↔ x = y := by
  constructor
  · intro h
    unfold cmpV at h
    obtain ⟨k, n, s⟩ := x
    obtain ⟨k', n', s'⟩ := y
    by_cases h1 : k = k'
    · by_cases h2 : n = n'
      · simp [h1, h2] at h
        have := cb_eq _ _ h
        have hs : s = s' := by
          obtain ⟨⟨l⟩⟩ := s; obtain ⟨⟨l'⟩⟩ := s'
          simp at this; rw [this]
        rw [h1, h2, hs]
      · simp [h1, h2, ci_zero] at h
    · simp [h1, ci_zero] at h
  · rintro rfl
    simp [cmpV, cb_self]
theorem cmpL_zero : ∀ {a b : List Val}, cmpL a b = 0 → a = b
  | [], [], _ => rfl
  | [], _ :: _, h => by cases h
  | _ :: _, [], h => by cases h
  | x :: a, y :: b, h => by
    rw [cmpL] at h
    split at h
    · rename_i hne
      rw [h] at hne
      simp at hne
    · rename_i hne
      have hxy : cmpV x y = 0 := by simpa using hne
      rw [cmp_zero.1 hxy, cmpL_zero h]
theorem cmpV_same (x : Val) : cmpV x x = 0 := cmp_zero.2 rfl
theorem cmpL_same : ∀ l : List Val, cmpL l l = 0
  | [] => rfl
  | x :: l => by rw [cmpL, cmpV_same]; exact cmpL_same l
theorem cmpL_iff {a b : List Val} : cmpL a b = 0 ↔ a = b := ⟨cmpL_zero, fun h => by rw [h]; exact cmpL_same b⟩
end Go.Proofs.YtjgpmnffagdhlaaGreatDoor
namespace Go.Proofs.YtjgpmnffagdhlaaGreatDoor
open Go Go.RowKit
set_option maxRecDepth 100000
theorem dig_one : ∀ d : Nat, d < 10 → (⟨#[48, 49, 50, 51, 52, 53, 54, 55, 56, 57]⟩ : ByteArray).extract d (d + 1) = ⟨#[48 + UInt8.ofNat d]⟩
  | 0, _ => rfl
  | 1, _ => rfl
  | 2, _ => rfl
  | 3, _ => rfl
  | 4, _ => rfl
  | 5, _ => rfl
  | 6, _ => rfl
  | 7, _ => rfl
  | 8, _ => rfl
  | 9, _ => rfl
  | n + 10, h => absurd h (by omega)
theorem dec_small {u : Nat} (h : u < 10) : Lib.decDigits u = [48 + UInt8.ofNat u] := by rw [Lib.decDigits, dif_pos h, UInt8.ofNat_add]; rfl
theorem dec_big {u : Nat} (h : ¬ u < 10) : Lib.decDigits u = Lib.decDigits (u / 10) ++ [48 + UInt8.ofNat (u % 10)] := by rw [Lib.decDigits, dif_neg h, UInt8.ofNat_add]; rfl
theorem cat_one (a : UInt8) (l : List UInt8) : (⟨#[a]⟩ : ByteArray) ++ ⟨l.toArray⟩ = ⟨(a :: l).toArray⟩ := by
  apply ByteArray.ext
  simp
theorem dec_64 (u : Nat) (h : u < 18446744073709551616) : (Lib.decDigits u).length ≤ 20 := dec_len u 19 (by omega)
set_option maxHeartbeats 1000000 in
theorem rdigits_c (u : Nat) (w : World) (hu : u < 18446744073709551616) :
    Calls Tryz.prog 52 #[.int .u64 u] w fun e w' => e = .returned (.string ⟨(Lib.decDigits u).toArray⟩) ∧ Below w.heap.size w w' := by
  obtain ⟨R, hR⟩ : ∃ R, Lib.decDigits u = R := ⟨_, rfl⟩
  rw [hR]
  have HR := Lib.hid hR
  have HRl : Hid (R.length ≤ 20) := Lib.hid (by rw [← hR]; exact dec_64 u hu)
  clear hR
  go_enter Tryz.func52, Tryz.ntmps52
  go_wp2_with fail
  go_loopw [0, 3] (fun v s wr => ∃ (m : Nat) (l : List UInt8), m ≤ u ∧ v = .int .u64 m ∧ s = .string ⟨l.toArray⟩ ∧ Hid (Below w.heap.size w wr) ∧ Hid (Lib.decDigits m ++ l = R)) (fun v _ _ => (intOf v).toNat)
  case atStart => exact ⟨u, [], Nat.le_refl _, rfl, rfl, Lib.hid (Below.refl _ _), Lib.hid (by rw [List.append_nil]; exact HR.out)⟩
  case round =>
    obtain ⟨m, l, hm, rfl, rfl, hb, hinv⟩ := hrel
    have hl : l.length ≤ 20 := by
      have h1 := HRl.out
      rw [← hinv.out, List.length_append] at h1
      omega
    have hsz : (⟨l.toArray⟩ : ByteArray).size = l.length := by show l.toArray.size = _; simp
    clear HR HRl
    by_cases hlt : m < 10
    · have hlt' : ¬ (9 : Int) < m := by omega
      have hd := dig_one m hlt
      have Hr : Hid ((⟨#[48 + UInt8.ofNat m]⟩ : ByteArray) ++ ⟨l.toArray⟩ = ⟨R.toArray⟩) := Lib.hid (by
        rw [cat_one, ← hinv.out, dec_small hlt]
        rfl)
      have hs1 : (⟨#[48 + UInt8.ofNat m]⟩ : ByteArray).size = 1 := rfl
      clear hinv
      go_wp2
      go_ret
      exact ⟨congrArg (fun z => Ending.returned (Value.string z)) Hr.out, hb.out⟩
    · have hlt' : (9 : Int) < m := by omega
      have Hbig := Lib.hid (dec_big hlt)
      have Hlt := Lib.hid hlt
      obtain ⟨d, hdd⟩ : ∃ d, m % 10 = d := ⟨_, rfl⟩
      obtain ⟨q, hqq⟩ : ∃ q, m / 10 = q := ⟨_, rfl⟩
      have hd10 : d < 10 := by omega
      have hmd : (m : Int) % 10 = (d : Nat) := by omega
      have hmq : (m : Int) / 10 = (q : Nat) := by omega
      have hd := dig_one d hd10
      have hs1 : (⟨#[48 + UInt8.ofNat d]⟩ : ByteArray).size = 1 := rfl
      have hbig := Hbig.out
      rw [hdd, hqq] at hbig
      have Hi2 : Hid (Lib.decDigits q ++ ((48 + UInt8.ofNat d) :: l) = R) := Lib.hid (by
        rw [← hinv.out, hbig, List.append_assoc]
        rfl)
      have Hqm : Hid (q < m) := Lib.hid (by omega)
      clear hbig Hbig hinv hlt hdd hqq
      go_wp2
      go_roundw
      case rel => exact ⟨q, _, by have := Hqm.out; omega, rfl, by rw [cat_one], hb, Hi2⟩
      case measure => have := Hqm.out; simp [intOf]; omega
set_option maxHeartbeats 1000000 in
theorem rsigned_c (n : Int) (w : World) (hn : -9223372036854775808 ≤ n ∧ n ≤ 9223372036854775807) :
    Calls Tryz.prog 27 #[.int .i64 n] w fun e w' => e = .returned (.string ⟨(Lib.itoa n).toArray⟩) ∧ Below w.heap.size w w' := by
  by_cases h0 : n < 0
  · obtain ⟨k, rfl⟩ : ∃ k : Nat, n = -(k : Int) - 1 := ⟨(-n - 1).toNat, by omega⟩
    obtain ⟨R, hR⟩ : ∃ R, Lib.itoa (-(k : Int) - 1) = R := ⟨_, rfl⟩
    rw [hR]
    have hk : k < 9223372036854775808 := by omega
    have hD := rdigits_c (k + 1) w (by omega)
    obtain ⟨D, hd⟩ : ∃ D, Lib.decDigits (k + 1) = D := ⟨_, rfl⟩
    have HRd : Hid ((⟨#[45]⟩ : ByteArray) ++ ⟨D.toArray⟩ = ⟨R.toArray⟩) := Lib.hid (by
      rw [cat_one, ← hR]
      unfold Lib.itoa
      rw [if_pos (by omega), show (-(k : Int) - 1).natAbs = k + 1 by omega, hd])
    have hDl : D.length ≤ 20 := by rw [← hd]; exact dec_64 _ (by omega)
    have hsz : (⟨D.toArray⟩ : ByteArray).size = D.length := by show D.toArray.size = _; simp
    rw [hd, show ((k + 1 : Nat) : Int) = (k : Int) + 1 by omega] at hD
    have HD := Lib.hid hD
    have hs1 : (⟨#[45]⟩ : ByteArray).size = 1 := rfl
    have hw0 : IntKind.i64.wrap (-(k : Int) - 1 + 1) = -(k : Int) := by rw [IntKind.wrap_i64]; omega
    have hw1 : IntKind.i64.wrap (-(k : Int)) = -(k : Int) := by rw [IntKind.wrap_i64]; omega
    have hw2 : IntKind.i64.wrap (k : Int) = k := by rw [IntKind.wrap_i64]; omega
    have hw3 : IntKind.u64.wrap (k : Int) = k := by rw [IntKind.wrap_u64]; omega
    have hw4 : IntKind.u64.wrap ((k : Int) + 1) = (k : Int) + 1 := by rw [IntKind.wrap_u64]; omega
    clear hR hD hd
    go_enter Tryz.func27, Tryz.ntmps27
    go_wp2_with fail
    refine HD.out.mono ?_
    rintro e w1 ⟨rfl, hb1⟩
    have Hb1 := Lib.hid hb1
    clear hb1 HD
    go_wp2
    go_ret
    exact ⟨congrArg (fun z => Ending.returned (Value.string z)) HRd.out, Hb1.out⟩
  · obtain ⟨k, rfl⟩ : ∃ k : Nat, n = k := ⟨n.toNat, by omega⟩
    have he : Lib.itoa (k : Int) = Lib.decDigits k := by
      unfold Lib.itoa
      rw [if_neg h0, Int.toNat_natCast]
    rw [he]
    have HD := Lib.hid (rdigits_c k w (by omega))
    obtain ⟨D, hd⟩ : ∃ D, Lib.decDigits k = D := ⟨_, rfl⟩
    rw [hd] at HD ⊢
    have hw3 : IntKind.u64.wrap (k : Int) = k := by rw [IntKind.wrap_u64]; omega
    clear he hd
    go_enter Tryz.func27, Tryz.ntmps27
    go_wp2_with fail
    refine HD.out.mono ?_
    rintro e w1 ⟨rfl, hb1⟩
    have Hb1 := Lib.hid hb1
    clear hb1 HD
    go_wp2
    go_ret
    exact ⟨rfl, Hb1.out⟩
end Go.Proofs.YtjgpmnffagdhlaaGreatDoor
namespace Go.Proofs.YtjgpmnffagdhlaaGreatDoor
open Go Go.RowKit
set_option maxRecDepth 100000
end Go.Proofs.YtjgpmnffagdhlaaGreatDoor
namespace Go.Proofs.YtjgpmnffagdhlaaGreatDoor
open Go Go.RowKit
set_option maxRecDepth 100000
/-- Are two statements the same? -/
def stB (x y : St) : Bool := decide (x.k = y.k) && (decide (x.name = y.name) && (cmpL x.row y.row == 0))
theorem stB_iff {x y : St} : stB x y = true ↔ x = y := by
  obtain ⟨k, nm, xs⟩ := x
  obtain ⟨k', nm', ys⟩ := y
  unfold stB
  simp only [Bool.and_eq_true, decide_eq_true_eq, beq_iff_eq, cmpL_iff, St.mk.injEq]
theorem name_beq (a b : ByteArray) : (a.toList == b.toList) = decide (a = b) := by
  rw [Bool.eq_iff_iff]
  simp only [beq_iff_eq, decide_eq_true_eq]
  exact ⟨fun h => toList_inj h, fun h => by rw [h]⟩
set_option maxHeartbeats 4000000 in
theorem ssame_c (x y : Stm) (w : World) (hx : x.In w) (hy : y.In w) :
    Calls Tryz.prog 26 #[x.w, y.w] w fun e w' => e = .returned (.bool (stB x.st y.st)) ∧ Below w.heap.size w w' := by
  obtain ⟨R, hR⟩ : ∃ R, stB x.st y.st = R := ⟨_, rfl⟩
  rw [hR]
  obtain ⟨k, nm, ⟨A, n, c, xs⟩⟩ := x
  obtain ⟨k', nm', ⟨A', n', c', ys⟩⟩ := y
  have hst : R = (decide (k = k') && (decide (nm = nm') && (cmpL xs ys == 0))) := by rw [← hR]; rfl
  clear hR
  have hb := below_2 w (.cells #[.int .i64 k, .string nm, .slice A n c] 50) (.cells #[.int .i64 k', .string nm', .slice A' n' c'] 50)
  have hs := hx.sl.after hb
  have ht := hy.sl.after hb
  obtain ⟨W, hW⟩ : ∃ W, (w.alloc (.cells #[.int .i64 k, .string nm, .slice A n c] 50)).alloc (.cells #[.int .i64 k', .string nm', .slice A' n' c'] 50) = W := ⟨_, rfl⟩
  rw [hW] at hb hs ht
  have HB := Lib.hid hb
  have HW := Lib.hid hW
  have HS := Lib.hid (same_c A A' n n' c c' xs ys W hx.len hy.len hx.max hy.max hs.sl ht.sl)
  clear hb hs ht hW hx hy
  by_cases h1 : k = k'
  case neg =>
    have e1 : (k == k') = false := by simpa using h1
    obtain rfl : R = false := by rw [hst, decide_eq_false h1]; rfl
    clear hst h1 HS
    go_enter Tryz.func26, Tryz.ntmps26
    go_wp2
    go_ret
    rw [HW.out]
    exact ⟨rfl, HB.out⟩
  have e1 : (k == k') = true := by simpa using h1
  by_cases h2 : nm = nm'
  case neg =>
    have e2 : (nm.toList == nm'.toList) = false := by rw [name_beq]; exact decide_eq_false h2
    obtain rfl : R = false := by rw [hst, decide_eq_false h2, decide_eq_true h1]; rfl
    clear hst h1 h2 HS
    go_enter Tryz.func26, Tryz.ntmps26
    go_wp2
    go_ret
    rw [HW.out]
    exact ⟨rfl, HB.out⟩
  have e2 : (nm.toList == nm'.toList) = true := by rw [name_beq]; exact decide_eq_true h2
  have hR : (cmpL xs ys == 0) = R := by
    rw [hst, decide_eq_true h1, decide_eq_true h2]
    rfl
  rw [hR] at HS
  clear hst hR h1 h2
  go_enter Tryz.func26, Tryz.ntmps26
  go_wp2_with fail
  rw [HW.out]
  refine HS.out.mono ?_
  rintro e w1 ⟨rfl, hb⟩
  have HB1 := Lib.hid (below_via HB.out hb)
  clear hb HS
  go_wp2
  go_ret
  exact ⟨rfl, HB1.out⟩
set_option maxHeartbeats 4000000 in
theorem sshort_c (x : Stm) (w : World) (hx : x.In w) (hz : ∀ v ∈ x.row.xs, v.s.size ≤ maxLen) (hn : x.name.size ≤ maxLen) :
    Calls Tryz.prog 23 #[x.w] w fun e w' => e = .returned (.bool (shortB x.row.xs && decide (x.name.size ≤ 100))) ∧ Below w.heap.size w w' := by
  obtain ⟨k, nm, ⟨A, n, c, xs⟩⟩ := x
  simp only at hn hz ⊢
  unfold maxLen at hn
  have hb := below_one w (.cells #[.int .i64 k, .string nm, .slice A n c] 50)
  have HS := Lib.hid (short_c A n c xs _ hx.len hx.max (hx.sl.after hb).sl hz)
  obtain ⟨W, hW⟩ : ∃ W, (w.alloc (.cells #[.int .i64 k, .string nm, .slice A n c] 50)) = W := ⟨_, rfl⟩
  have HK : Hid (Bk W w.heap.size #[.int .i64 k, .string nm, .slice A n c] 50) := Lib.hid (by rw [← hW]; exact Bk.new w _ _)
  rw [hW] at hb HS
  have HB := Lib.hid hb
  have HW := Lib.hid hW
  have hd : decide ((nm.size : Int) ≤ 100) = decide (nm.size ≤ 100) := decide_eq_decide.2 (by omega)
  obtain ⟨Z, hZ⟩ : ∃ Z, shortB xs = Z := ⟨_, rfl⟩
  obtain ⟨Y, hY⟩ : ∃ Y, decide (nm.size ≤ 100) = Y := ⟨_, rfl⟩
  rw [hY] at hd ⊢
  rw [hZ] at HS ⊢
  clear hb hW hx hz hZ hY
  go_enter Tryz.func23, Tryz.ntmps23
  go_wp2_with fail
  rw [HW.out]
  refine HS.out.mono ?_
  rintro e w1 ⟨rfl, hb⟩
  have HB1 := Lib.hid (below_via HB.out hb)
  have c1 : w1.cell? ⟨w.heap.size, 1, none⟩ = some (.string nm) := (HK.out.after hb HK.out.lt).cell 1
  have hl : w.heap.size < w1.heap.size := (HK.out.after hb HK.out.lt).lt
  clear hb HS HK
  cases Z
  · clear hd
    go_wp2
    go_ret
    exact ⟨rfl, HB1.out⟩
  · go_wp2
    go_ret
    exact ⟨rfl, HB1.out⟩
end Go.Proofs.YtjgpmnffagdhlaaGreatDoor
namespace Go.Proofs.YtjgpmnffagdhlaaGreatDoor
open Go Go.RowKit
set_option maxRecDepth 100000
def fs1 : List UInt8 := [112, 117, 116, 32, 116, 32, 40, 49, 44, 32, 110, 117, 108, 108, 41]
def fs2 : List UInt8 := [112, 117, 116, 32, 116, 32, 40, 49, 44, 41]
def fs3 : List UInt8 := [103, 101, 116, 32, 116, 32, 49, 32, 50]
def fs4 : List UInt8 := [108, 111, 111, 107, 32, 33]
def fsp : List UInt8 := [112, 117, 116, 32, 116, 32, 40, 32, 49, 32, 44, 32, 110, 117, 108, 108, 32, 41]
theorem fs_e1 : errS fs1 = 0 := by kernel_rfl
theorem fs_e2 : errS fs2 = 70 := by kernel_rfl
theorem fs_e3 : errS fs3 = 70 := by kernel_rfl
theorem fs_e4 : errS fs4 = 60 := by kernel_rfl
theorem fs_x : smO fs1 = ⟨2, ba [116], [iv 1, nl]⟩ := by kernel_rfl
theorem fs_m : mayS ⟨2, ba [116], [iv 1, nl]⟩ = true := by kernel_rfl
theorem fs_p : printL (toksS ⟨2, ba [116], [iv 1, nl]⟩) = fsp := by kernel_rfl
theorem fs_b : stB ⟨2, ba [116], [iv 1, nl]⟩ ⟨2, ⟨#[116]⟩, [iv 1, nl]⟩ = true := stB_iff.2 rfl
theorem fs_z : ∀ v ∈ ([iv 1, nl] : List Val), v.s.size ≤ maxLen := by
  intro v hv
  rcases List.mem_cons.1 hv with rfl | hv
  · exact (by decide : (iv 1).s.size ≤ maxLen)
  · rw [List.mem_singleton.1 hv]; exact (by decide : nl.s.size ≤ maxLen)
theorem fs_6 : ∀ v ∈ ([iv 1, nl] : List Val), -9223372036854775808 ≤ v.n ∧ v.n ≤ 9223372036854775807 := by
  intro v hv
  rcases List.mem_cons.1 hv with rfl | hv
  · exact (by decide : -9223372036854775808 ≤ (iv 1).n ∧ (iv 1).n ≤ 9223372036854775807)
  · rw [List.mem_singleton.1 hv]; exact (by decide : -9223372036854775808 ≤ nl.n ∧ nl.n ≤ 9223372036854775807)
/-- What the program's statements read of its variables. -/
structure Gs (B : Nat) (w : World) : Prop where
  g : Gw B w
  s : StW w
  lt : 0 < B
theorem Gs.below {B : Nat} {w w' : World} (h : Gs B w) (hb : Below B w w') : Gs B w' := ⟨h.g.below hb, h.s.below hb h.lt, h.lt⟩
theorem Gs.up {B C : Nat} {w : World} (h : Gs B w) (hc : B ≤ C) : Gs C w := ⟨h.g.up hc, h.s, Nat.lt_of_lt_of_le h.lt hc⟩
theorem Gs.at {w w' : World} (h : Gs w.heap.size w) (hb : Below w.heap.size w w') : Gs w'.heap.size w' := (h.below hb).up hb.size
theorem sprsG (l : List UInt8) (w : World) (hl : l.length ≤ maxLen) (hG : Gs w.heap.size w) :
    Calls Tryz.prog 25 #[.string (ba l)] w fun e w' => ∃ x : Stm, e = .returned (.tuple #[x.w, .int .i64 (errS l)]) ∧ x.In w' ∧ x.st = smO l ∧ Below w.heap.size w w' := sprs l w hl hG.g hG.s hG.lt
theorem sprintG (x : Stm) (w : World) (hG : Gs w.heap.size w) (hx : x.In w) (hz : ∀ v ∈ x.row.xs, v.s.size ≤ maxLen) (hn : x.name.size ≤ 4611686018427387904) (h6 : S64 x.st) :
    Calls Tryz.prog 24 #[x.w] w fun e w' => ∃ t, e = .returned (.string (ba t)) ∧ PrS x.st t ∧ Below w.heap.size w w' := sprint_c x w hG.g hG.s hG.lt hx hz hn h6
set_option maxHeartbeats 16000000 in
theorem fixed8_c (w : World) (hG : Gs w.heap.size w) : Calls Tryz.prog 22 #[] w fun e w' => e = .returned (.bool true) ∧ Below w.heap.size w w' := by
  have HG := Lib.hid hG
  have HQ1 := Lib.hid (fun u (h : Below w.heap.size w u) => sprsG fs1 u (by decide) (hG.at h))
  rw [fs_e1] at HQ1
  have HQ2 := Lib.hid (fun u (h : Below w.heap.size w u) => sprsG fs2 u (by decide) (hG.at h))
  rw [fs_e2] at HQ2
  have HQ3 := Lib.hid (fun u (h : Below w.heap.size w u) => sprsG fs3 u (by decide) (hG.at h))
  rw [fs_e3] at HQ3
  have HQ4 := Lib.hid (fun u (h : Below w.heap.size w u) => sprsG fs4 u (by decide) (hG.at h))
  rw [fs_e4] at HQ4
  have HB0 := Lib.hid (Below.refl w.heap.size w)
  clear hG
  go_enter Tryz.func22, Tryz.ntmps22
  go_wp2_with fail
  refine (HQ1.out w HB0.out).mono ?_
  rintro e w1 ⟨x, rfl, hi, hd, hb⟩
  obtain ⟨W1, hW1⟩ : ∃ W1, w1.alloc (.cells #[.int .i64 x.k, .string x.name, .slice x.row.A x.row.n x.row.c] 50) = W1 := ⟨_, rfl⟩
  have hb2 : Below w.heap.size w W1 := by rw [← hW1]; exact below_al hb _
  have HB1 := Lib.hid (below_via HB0.out hb2)
  have HI1 : Hid (x.In W1) := Lib.hid (by rw [← hW1]; exact hi.after (below_one _ _))
  have HK1 : Hid (BkS W1 w1.heap.size x) := Lib.hid (by rw [← hW1]; exact Bk.new _ _ _)
  have HX := Lib.hid hd
  have HE1 := Lib.hid hW1
  clear hi hd hb hb2 hW1 HQ1
  go_wp2_with fail
  rw [HE1.out]
  refine (HQ2.out W1 HB1.out).mono ?_
  rintro e w2 ⟨y, rfl, hi, hd, hb⟩
  obtain ⟨W2, hW2⟩ : ∃ W2, w2.alloc (.cells #[.int .i64 y.k, .string y.name, .slice y.row.A y.row.n y.row.c] 50) = W2 := ⟨_, rfl⟩
  have hb2 : Below W1.heap.size W1 W2 := by rw [← hW2]; exact below_al hb _
  have HB2 := Lib.hid (below_via HB1.out hb2)
  have HI2 := Lib.hid (HI1.out.after hb2)
  have HK2 := Lib.hid (Bk.after HK1.out hb2 HK1.out.lt)
  have HE2 := Lib.hid hW2
  clear hi hd hb hb2 hW2 HQ2
  go_wp2_with fail
  rw [HE2.out]
  refine (HQ3.out W2 HB2.out).mono ?_
  rintro e w3 ⟨z, rfl, hi, hd, hb⟩
  obtain ⟨W3, hW3⟩ : ∃ W3, w3.alloc (.cells #[.int .i64 z.k, .string z.name, .slice z.row.A z.row.n z.row.c] 50) = W3 := ⟨_, rfl⟩
  have hb2 : Below W2.heap.size W2 W3 := by rw [← hW3]; exact below_al hb _
  have HB3 := Lib.hid (below_via HB2.out hb2)
  have HI3 := Lib.hid (HI2.out.after hb2)
  have HK3 := Lib.hid (Bk.after HK2.out hb2 HK2.out.lt)
  have HE3 := Lib.hid hW3
  clear hi hd hb hb2 hW3 HQ3
  go_wp2_with fail
  rw [HE3.out]
  refine (HQ4.out W3 HB3.out).mono ?_
  rintro e w4 ⟨u, rfl, hi, hd, hb⟩
  obtain ⟨W4, hW4⟩ : ∃ W4, w4.alloc (.cells #[.int .i64 u.k, .string u.name, .slice u.row.A u.row.n u.row.c] 50) = W4 := ⟨_, rfl⟩
  have hb2 : Below W3.heap.size W3 W4 := by rw [← hW4]; exact below_al hb _
  have HB4 := Lib.hid (below_via HB3.out hb2)
  have HI4 := Lib.hid (HI3.out.after hb2)
  have HK4 := Lib.hid (Bk.after HK3.out hb2 HK3.out.lt)
  have HE4 := Lib.hid hW4
  clear hi hd hb hb2 hW4 HQ4
  have hxs := HX.out
  rw [fs_x] at hxs
  obtain ⟨k, nm, ⟨A, n, c, xs⟩⟩ := x
  have e1 : k = 2 := congrArg St.k hxs
  have e2 : nm = ba [116] := congrArg St.name hxs
  have e3 : xs = [iv 1, nl] := congrArg St.row hxs
  subst e1 e2 e3
  have c0 : W4.cell? ⟨w1.heap.size, 0, none⟩ = some (.int .i64 2) := HK4.out.cell 0
  have c1 : W4.cell? ⟨w1.heap.size, 1, none⟩ = some (.string ⟨#[116]⟩) := HK4.out.cell 1
  have c2 : W4.cell? ⟨w1.heap.size, 2, none⟩ = some (.slice A n c) := HK4.out.cell 2
  have hl1 := HK4.out.lt
  have HSt : Hid (∀ wy, Below W4.heap.size W4 wy → (wy.cell? ⟨w1.heap.size, 0, none⟩ = some (.int .i64 2) ∧ wy.cell? ⟨w1.heap.size, 1, none⟩ = some (.string ⟨#[116]⟩) ∧ wy.cell? ⟨w1.heap.size, 2, none⟩ = some (.slice A n c))) := Lib.hid (fun wy h => ⟨(Bk.after HK4.out h HK4.out.lt).cell 0, (Bk.after HK4.out h HK4.out.lt).cell 1, (Bk.after HK4.out h HK4.out.lt).cell 2⟩)
  have HI0 := Lib.hid (rint_c 1 W4.drew)
  clear hxs HX
  go_wp2_with fail
  rw [HE4.out]
  go_region_held3 (fun w' => (w'.cell? ⟨w1.heap.size, 0, none⟩ = some (.int .i64 2) ∧ w'.cell? ⟨w1.heap.size, 1, none⟩ = some (.string ⟨#[116]⟩) ∧ w'.cell? ⟨w1.heap.size, 2, none⟩ = some (.slice A n c)))
    (first
      | exact HSt.out _ HbS.out
      | go_keep)
    (first
      | (go_at_call 28
         with_reducible refine HI0.out.mono ?_
         rintro e w5 ⟨rfl, hb5⟩
         have HbS := Lib.hid ((Below.refl _ W4).drew.trans hb5)
         clear hb5)
      | (go_at_call 26
         have HbA : Hid (Below W4.heap.size W4 (w5.alloc (.cells #[.int .i64 (iv 1).k, .int .i64 (iv 1).n, .string (iv 1).s, .int .i64 0, .int .i64 0, .string ⟨#[]⟩] 59))) := Lib.hid (below_al HbS.out _)
         have HSl : SlG (w5.alloc (.cells #[.int .i64 (iv 1).k, .int .i64 (iv 1).n, .string (iv 1).s, .int .i64 0, .int .i64 0, .string ⟨#[]⟩] 59)) (some ⟨w5.heap.size, 0, none⟩) 3 rdV [iv 1, nl] := SlG.new (rd := rdV) (S := 3) (w := w5) (E := 59) (fun _ => rfl) [iv 1, nl] rfl
         have HC := Lib.hid (ssame_c ⟨2, ba [116], ⟨A, n, c, [iv 1, nl]⟩⟩ ⟨2, ⟨#[116]⟩, ⟨some ⟨w5.heap.size, 0, none⟩, 2, 2, [iv 1, nl]⟩⟩ _ (HI4.out.after HbA.out) ⟨rfl, (by unfold maxLen; omega : 2 ≤ maxLen), HSl⟩)
         have hB : stB (⟨2, ba [116], ⟨A, n, c, [iv 1, nl]⟩⟩ : Stm).st (⟨2, ⟨#[116]⟩, ⟨some ⟨w5.heap.size, 0, none⟩, 2, 2, [iv 1, nl]⟩⟩ : Stm).st = true := fs_b
         rw [hB] at HC
         clear HSl hB
         with_reducible refine HC.out.mono ?_
         rintro e w6 ⟨rfl, hb6⟩
         have HbS := Lib.hid (below_via HbA.out hb6)
         clear hb6 HC HbA)
      | (go_at_call 24
         have HC := Lib.hid (sprintG ⟨2, ba [116], ⟨A, n, c, [iv 1, nl]⟩⟩ w6 (HG.out.at (below_via HB4.out HbS.out)) (HI4.out.after HbS.out) fs_z (by decide : (ba [116]).size ≤ 4611686018427387904) fs_6)
         with_reducible refine HC.out.mono ?_
         rintro e w7 ⟨t, rfl, hp, hb7⟩
         have hp : PrS ⟨2, ba [116], [iv 1, nl]⟩ t := hp
         have ht : t = fsp := PrS.uniq hp (.inl ⟨fs_m, by rw [fs_p]; decide, fs_p.symm⟩)
         subst ht
         rw [show ba fsp = (⟨#[112, 117, 116, 32, 116, 32, 40, 32, 49, 32, 44, 32, 110, 117, 108, 108, 32, 41]⟩ : ByteArray) from rfl]
         have HbS := Lib.hid (below_via HbS.out hb7)
         clear hb7 hp HC))
  all_goals
    have HB9 := Lib.hid (below_via HB4.out HbS.out)
    clear HSt HbS c0 c1 c2 hl1
    go_wp2
    go_ret
    exact ⟨rfl, HB9.out⟩
end Go.Proofs.YtjgpmnffagdhlaaGreatDoor
namespace Go.Proofs.YtjgpmnffagdhlaaGreatDoor
open Go Go.RowKit
set_option maxRecDepth 100000
theorem errS_zero {l : List UInt8} (h : errS l = 0) : ∃ ts, lexL l = some ts ∧ parseS ts = some (smO l) ∧ l.length ≤ 20000 := by
  unfold errS at h
  unfold smO
  cases hq : lexO l with
  | none => rw [hq] at h; cases h
  | some ts =>
    rw [hq] at h
    have hl : l.length ≤ 20000 ∧ lexL l = some ts := by
      unfold lexO at hq
      split at hq
      · rename_i h; exact ⟨h, hq⟩
      · cases hq
    cases hp : parseS ts with
    | none => simp only [hp] at h; cases h
    | some x => exact ⟨ts, hl.2, by simp [hp], hl.1⟩
theorem errS_cases (l : List UInt8) : errS l = 0 ∨ errS l = 60 ∨ errS l = 70 := by
  unfold errS
  cases lexO l with
  | none => exact .inr (.inl rfl)
  | some ts =>
    simp only
    cases parseS ts with
    | none => exact .inr (.inr rfl)
    | some d => exact .inl rfl
theorem errS_ne {l : List UInt8} (h : errS l ≠ 0) : smO l = st0 := by
  unfold errS at h
  unfold smO
  cases hq : lexO l with
  | none => rfl
  | some ts =>
    rw [hq] at h
    simp only at h ⊢
    cases hp : parseS ts with
    | none => rfl
    | some d => rw [hp] at h; exact absurd rfl h
theorem sm_may {l : List UInt8} (h : errS l = 0) : mayS (smO l) = true ∧ S64 (smO l) ∧ (printL (toksS (smO l))).length ≤ 2 * l.length := by
  obtain ⟨ts, h1, h2, _⟩ := errS_zero h
  exact read_printS h1 h2
/-- How many values, by what is done. -/
theorem may_many {x : St} (h : mayS x = true) : (x.k = 0 ∧ x.row.length = 1) ∨ (x.k = 1 ∧ x.row.length = 2) ∨ (x.k = 2 ∧ x.row.length ≤ 40) ∨ (x.k = 3 ∧ x.row.length ≤ 40) ∨ (x.k = 4 ∧ x.row.length = 1) ∨ (x.k = 5 ∧ x.row.length = 0) := by
  have h2 := h
  rw [mayS_eq] at h2
  have h3 : fitsB x.k x.row.length = true := (Bool.and_eq_true_iff.1 h2).1
  obtain ⟨⟨⟨j, hj, hk⟩, _⟩, _⟩ := may_parts h
  rw [hk] at h3 ⊢
  have : j = 0 ∨ j = 1 ∨ j = 2 ∨ j = 3 ∨ j = 4 ∨ j = 5 := by omega
  unfold fitsB at h3
  rcases this with rfl | rfl | rfl | rfl | rfl | rfl <;> simp at h3 ⊢ <;> exact h3
set_option maxHeartbeats 8000000 in
theorem keys8_w (l : List UInt8) (w : World) (hl : l.length ≤ maxLen) (hG : Gs w.heap.size w) :
    Calls Tryz.prog 9 #[.string (ba l)] w fun e w' => e = .returned (.bool true) ∧ Below w.heap.size w w' := by
  have HG := Lib.hid hG
  have HB0 := Lib.hid (Below.refl w.heap.size w)
  have Hl := Lib.hid hl
  unfold maxLen at hl
  clear hG
  have Hbl := Lib.hid (show (ba l).size = l.length from rfl)
  go_enter Tryz.func9, Tryz.ntmps9
  go_wp2_with fail
  refine (sprsG l w Hl.out (HG.out.at HB0.out)).mono ?_
  rintro e w1 ⟨x, rfl, hi, hd, hb⟩
  obtain ⟨w2, hw2⟩ : ∃ w2, w1.alloc (.cells #[.int .i64 x.k, .string x.name, .slice x.row.A x.row.n x.row.c] 50) = w2 := ⟨_, rfl⟩
  have hb2 : Below w.heap.size w w2 := by rw [← hw2]; exact below_al hb _
  have HIx2 : Hid (x.In w2) := Lib.hid (by rw [← hw2]; exact hi.after (below_one _ _))
  have HKx2 : Hid (BkS w2 w1.heap.size x) := Lib.hid (by rw [← hw2]; exact Bk.new _ _ _)
  have HDx : Hid (x.st = smO l) := Lib.hid hd
  have HB2 := Lib.hid (below_via HB0.out hb2)
  clear hi hd hb hb2
  obtain ⟨s, hs⟩ : ∃ s, ba l = s := ⟨_, rfl⟩
  rw [hs] at Hbl ⊢
  have hsz : s.size ≤ 9223372036854775807 := by rw [Hbl.out]; exact hl
  clear hs hl
  by_cases h0 : errS l = 0
  · rw [h0]
    go_wp2_with fail
    refine (fixed8_c w2 (HG.out.at HB2.out)).mono ?_
    rintro e w3 ⟨rfl, hb⟩
    have HB3 := Lib.hid (below_via HB2.out hb)
    have HIx3 : Hid (x.In w3) := Lib.hid (HIx2.out.after hb)
    have HKx3 : Hid (BkS w3 w1.heap.size x) := Lib.hid (Bk.after HKx2.out hb HKx2.out.lt)
    clear hb
    by_cases h2 : s.size ≤ 2000
    · have hm := (sm_may h0).1
      rw [← HDx.out] at hm
      have hn := HIx2.out.len
      obtain ⟨k, nm, ⟨A, n, c, xs⟩⟩ := x
      have hy := may_many hm
      have hy : (k = 0 ∧ xs.length = 1) ∨ (k = 1 ∧ xs.length = 2) ∨ (k = 2 ∧ xs.length ≤ 40) ∨ (k = 3 ∧ xs.length ≤ 40) ∨ (k = 4 ∧ xs.length = 1) ∨ (k = 5 ∧ xs.length = 0) := hy
      have hn : xs.length = n := hn
      rw [hn] at hy
      have hd2 : decide ((s.size : Int) > 2000) = false := decide_eq_false (by omega)
      clear hm hn h0 h2
      have xc0 : w3.cell? ⟨w1.heap.size, 0, none⟩ = some (.int .i64 k) := HKx3.out.cell 0
      have xc1 : w3.cell? ⟨w1.heap.size, 1, none⟩ = some (.string nm) := HKx3.out.cell 1
      have xc2 : w3.cell? ⟨w1.heap.size, 2, none⟩ = some (.slice A n c) := HKx3.out.cell 2
      have xcl := HKx3.out.lt
      rcases hy with ⟨rfl, rfl⟩ | ⟨rfl, rfl⟩ | ⟨rfl, hn⟩ | ⟨rfl, hn⟩ | ⟨rfl, rfl⟩ | ⟨rfl, rfl⟩
      · go_wp2
        go_ret
        exact ⟨rfl, HB3.out⟩
      · go_wp2
        go_ret
        exact ⟨rfl, HB3.out⟩
      · have hd3 : decide ((n : Int) ≤ 40) = true := decide_eq_true (by omega)
        go_wp2
        go_ret
        exact ⟨rfl, HB3.out⟩
      · have hd3 : decide ((n : Int) ≤ 40) = true := decide_eq_true (by omega)
        go_wp2
        go_ret
        exact ⟨rfl, HB3.out⟩
      · go_wp2
        go_ret
        exact ⟨rfl, HB3.out⟩
      · go_wp2
        go_ret
        exact ⟨rfl, HB3.out⟩
    · have hd2 : decide ((s.size : Int) > 2000) = true := decide_eq_true (by omega)
      clear h0 h2
      go_wp2_with fail
      refine (fixed8_c w3 (HG.out.at HB3.out)).mono ?_
      rintro e w4 ⟨rfl, hb⟩
      have HB4 := Lib.hid (below_via HB3.out hb)
      have HIx4 : Hid (x.In w4) := Lib.hid (HIx3.out.after hb)
      have HKx4 : Hid (BkS w4 w1.heap.size x) := Lib.hid (Bk.after HKx3.out hb HKx3.out.lt)
      clear hb
      go_wp2
      go_ret
      exact ⟨rfl, HB4.out⟩
  · have h0 : errS l = 60 ∨ errS l = 70 := by rcases errS_cases l with h | h | h; exact absurd h h0; exact .inl h; exact .inr h
    rcases h0 with h0 | h0
    · rw [h0]
      clear h0
      go_wp2_with fail
      refine (fixed8_c w2 (HG.out.at HB2.out)).mono ?_
      rintro e w3 ⟨rfl, hb⟩
      have HB3 := Lib.hid (below_via HB2.out hb)
      have HIx3 : Hid (x.In w3) := Lib.hid (HIx2.out.after hb)
      have HKx3 : Hid (BkS w3 w1.heap.size x) := Lib.hid (Bk.after HKx2.out hb HKx2.out.lt)
      clear hb
      go_wp2_with fail
      refine (fixed8_c w3 (HG.out.at HB3.out)).mono ?_
      rintro e w4 ⟨rfl, hb⟩
      have HB4 := Lib.hid (below_via HB3.out hb)
      have HIx4 : Hid (x.In w4) := Lib.hid (HIx3.out.after hb)
      have HKx4 : Hid (BkS w4 w1.heap.size x) := Lib.hid (Bk.after HKx3.out hb HKx3.out.lt)
      clear hb
      go_wp2
      go_ret
      exact ⟨rfl, HB4.out⟩
    · rw [h0]
      clear h0
      go_wp2_with fail
      refine (fixed8_c w2 (HG.out.at HB2.out)).mono ?_
      rintro e w3 ⟨rfl, hb⟩
      have HB3 := Lib.hid (below_via HB2.out hb)
      have HIx3 : Hid (x.In w3) := Lib.hid (HIx2.out.after hb)
      have HKx3 : Hid (BkS w3 w1.heap.size x) := Lib.hid (Bk.after HKx2.out hb HKx2.out.lt)
      clear hb
      go_wp2_with fail
      refine (fixed8_c w3 (HG.out.at HB3.out)).mono ?_
      rintro e w4 ⟨rfl, hb⟩
      have HB4 := Lib.hid (below_via HB3.out hb)
      have HIx4 : Hid (x.In w4) := Lib.hid (HIx3.out.after hb)
      have HKx4 : Hid (BkS w4 w1.heap.size x) := Lib.hid (Bk.after HKx3.out hb HKx3.out.lt)
      clear hb
      go_wp2
      go_ret
      exact ⟨rfl, HB4.out⟩
end Go.Proofs.YtjgpmnffagdhlaaGreatDoor
