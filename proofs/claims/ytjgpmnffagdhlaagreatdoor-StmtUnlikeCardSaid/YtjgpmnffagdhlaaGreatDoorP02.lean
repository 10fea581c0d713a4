/-
  Part 2 of 7 of what the proof leans on: each part below says what it proves, and of what; no condition besides.
-/
import Derived.Test.YtjgpmnffagdhlaaGreatDoorP01
import Derived.Shelf.Strings.Builder1
import Derived.Shelf.Strings.Builder2
import Derived.Shelf.Strings.OnBuilder
import Derived.Shelf.Small.Strs
import Derived.Shelf.Small.Wraps
import Derived.Shelf.Strings.BuilderF
import Derived.Shelf.Strings.BuilderK
import Derived.Shelf.Utf8.RuneCount
import Derived.Shelf.Strings.Builder2Cap
import Derived.Shelf.Strconv.Atoi
import Derived.Shelf.Strconv.Itoa0
import Derived.Shelf.Strconv.Itoa1
import Derived.Shelf.LaysM
import Derived.Shelf.Strconv.Itoa2
import Derived.Shelf.Strconv.Itoa3
import Derived.Shelf.Strconv.AtoiErrFast
import Derived.Shelf.Strconv.ParseIntEmpty
import Derived.Shelf.Strconv.AtoiFail
import Derived.Shelf.Strconv.Clone
import Derived.Shelf.Strconv.SyntaxError
import Derived.Shelf.LaysC
import Derived.Shelf.Strconv.ToError
import Derived.Shelf.Strconv.Lower
import Derived.Shelf.Strconv.ParseUint10
import Derived.Shelf.Strconv.ParseUint10Empty
import Derived.Shelf.Strconv.ParseUint10Any
import Derived.Shelf.Strconv.ParseInt10
import Derived.Shelf.Strconv.AtoiLong
import Derived.Shelf.Strconv.AtoiInnerAll
import Derived.Shelf.Strconv.RangeError
import Derived.Shelf.Strconv.ToErrorRange
import Derived.Shelf.Strconv.AtoiAll
import Derived.Shelf.Strconv.ErrVarAll
import Derived.Shelf.Strings.Search1
import Derived.Shelf.Strings.Search2
import Derived.Shelf.Strings.Search3
import Derived.Shelf.Strings.Count
import Derived.Shelf.Strings.Shaped
import Derived.Shelf.Strings.Prefix
import Derived.Shelf.Strings.Split
import Derived.Shelf.Strings.Replace
import Derived.Shelf.Strings.SplitShaped
import Derived.Shelf.Strings.RuneCount
import Derived.Shelf.Unicode.DecodeSlow
import Derived.Shelf.Unicode.DecodeAny
import Derived.Shelf.Strings.BuilderCap
import Derived.Shelf.Slices.Turned
import Derived.Shelf.Slices.Equal
import Derived.Shelf.Slices.Empties2
import Derived.Test.YtjgpmnffagdhlaaGreatDoorProg
import Derived.Sort.Grow
import Derived.Lib.LaidTab
import Derived.Laws.Concat
import Derived.Laws.IdiomStrings
import Derived.Laws.BytesArg
import Derived.Defers
import Derived.Recover
import Derived.Lib.OthersKept
import Derived.Lib.UnsafeStr
import Derived.Lib.Builder
import Derived.Lib.Strings
set_option linter.unusedVariables false
set_option linter.unusedSimpArgs false
namespace Go.Proofs.YtjgpmnffagdhlaaGreatDoor
open Go
set_option maxRecDepth 100000
/-- A statement: Do, Name, Row. -/
structure St where
  k : Int
  name : ByteArray
  row : List Val
def st0 : St := ⟨0, emp, []⟩
def w_get : List UInt8 := [103, 101, 116]
def w_scan : List UInt8 := [115, 99, 97, 110]
def w_put : List UInt8 := [112, 117, 116]
def w_set : List UInt8 := [115, 101, 116]
def w_cut : List UInt8 := [99, 117, 116]
def w_look : List UInt8 := [108, 111, 111, 107]
def stWs : List (List UInt8) := [w_get, w_scan, w_put, w_set, w_cut, w_look]
/-- Reading. -/
def valP : List Tk → Option (Val × List Tk)
  | [] => none
  | t :: r => if t.k == 1 then some (t.v, r) else if isW w_null t then some (nl, r) else if isW w_true t then some (tt, r) else if isW w_false t then some (ff, r) else none
def valsF : Nat → List Tk → Option (List Val)
  | _, [] => some []
  | 0, _ :: _ => none
  | n + 1, t :: r => (valP (t :: r)).bind fun p => (valsF n p.2).map (p.1 :: ·)
def rowP (l : List Tk) : Option (List Val) :=
  (needP s_lp l).bind fun r => if (takeP s_rp r).1 then (if (takeP s_rp r).2.isEmpty then some [] else none)
    else (sepP valP r).bind fun p => (needP s_rp p.2).bind fun q => if q.isEmpty = true ∧ p.1.length ≤ 40 then some p.1 else none
def manyV (k : Int) : Nat := if k = 0 then 1 else if k = 1 then 2 else if k = 4 then 1 else 0
def parseS (l : List Tk) : Option St :=
  (oneP stWs l).bind fun d => (nameP d.2).bind fun a =>
    if d.1 = 2 ∨ d.1 = 3 then (rowP a.2).map fun r => ⟨d.1, a.1, r⟩
    else if a.2.length = manyV d.1 then (valsF a.2.length a.2).map fun r => ⟨d.1, a.1, r⟩ else none
/-- Printing. -/
def valT (v : Val) : Tk := if v.eq nl then tW w_null else if v.eq tt then tW w_true else if v.eq ff then tW w_false else ⟨1, emp, v⟩
def doW (k : Int) : List UInt8 := if k = 0 then w_get else if k = 1 then w_scan else if k = 2 then w_put else if k = 3 then w_set else if k = 4 then w_cut else w_look
def toksS (x : St) : List Tk := tW (doW x.k) :: tN x.name :: (if x.k = 2 ∨ x.k = 3 then tS s_lp :: (sepT (fun v => [valT v]) x.row ++ [tS s_rp]) else x.row.map valT)
/-- What may be. -/
def mayS (x : St) : Bool := decide (0 ≤ x.k) && (decide (x.k ≤ 5) && (nameB x.name.data.toList && (x.row.all mayB && (if x.k = 2 ∨ x.k = 3 then decide (x.row.length ≤ 40) else decide (x.row.length = manyV x.k)))))
theorem one_do {k : Int} (h1 : 0 ≤ k) (h3 : k ≤ 5) (r : List Tk) : oneP stWs (tW (doW k) :: r) = some (k, r) := by
  have : k = 0 ∨ k = 1 ∨ k = 2 ∨ k = 3 ∨ k = 4 ∨ k = 5 := by omega
  rcases this with rfl | rfl | rfl | rfl | rfl | rfl <;> rfl
theorem val_print (v : Val) (r : List Tk) : valP (valT v :: r) = some (v, r) := by
  unfold valT
  split
  · rename_i h; rw [Val.eq_iff.1 h]; rfl
  split
  · rename_i h; rw [Val.eq_iff.1 h]; rfl
  split
  · rename_i h; rw [Val.eq_iff.1 h]; rfl
  · rfl
theorem vals_print : ∀ (l : List Val) (n : Nat), l.length ≤ n → valsF n (l.map valT) = some l
  | [], 0, _ => rfl
  | [], _ + 1, _ => rfl
  | v :: l, 0, h => by simp at h
  | v :: l, n + 1, h => by
    rw [List.map_cons, valsF, val_print]
    simp only [Option.bind_some]
    rw [vals_print l n (by simp at h; omega)]
    rfl
theorem valT_rp (v : Val) : isW s_rp (valT v) = false := by
  unfold valT
  repeat' split
  all_goals rfl
theorem row_print {l : List Val} (h : l.length ≤ 40) : rowP (tS s_lp :: (sepT (fun v => [valT v]) l ++ [tS s_rp])) = some l := by
  have e1 : isW s_lp (tS s_lp) = true := rfl
  have e2 : isW s_rp (tS s_rp) = true := rfl
  cases l with
  | nil => rfl
  | cons v l =>
    unfold rowP
    rw [need_hit e1]
    simp only [Option.bind_some]
    have hh : ∃ q, sepT (fun v => [valT v]) (v :: l) ++ [tS s_rp] = valT v :: q := ⟨_, rfl⟩
    obtain ⟨q, hq⟩ := hh
    rw [hq, take_miss (valT_rp v)]
    simp only [Bool.false_eq_true, if_false]
    rw [← hq]
    unfold sepP
    rw [sep_print (p := valP) (f := fun v => [valT v]) (V := fun _ => True) (E := endC) (.inl rfl) (fun a _ t r _ => val_print a _) (v :: l) _ _ _ (by simp) (fun _ _ => trivial) (.inr rfl) rfl (by
      have := sepT_len (f := fun v => [valT v]) (fun _ => by simp) (v :: l)
      simp only [List.length_append, List.length_cons] at this ⊢
      omega)]
    simp only [Option.bind_some]
    rw [need_hit e2]
    simp only [Option.bind_some]
    rw [if_pos ⟨rfl, h⟩]
/-- WHAT IS PRINTED IS READ AS IT WAS, in tokens. -/
theorem parse_toksS {x : St} (h : mayS x = true) : parseS (toksS x) = some x := by
  obtain ⟨k, nm, row⟩ := x
  unfold mayS at h
  simp only [Bool.and_eq_true, decide_eq_true_eq] at h
  obtain ⟨h1, h2, h3, h4, h5⟩ := h
  unfold parseS toksS
  simp only
  rw [one_do h1 h2]
  simp only [Option.bind_some]
  rw [name_print h3]
  simp only [Option.bind_some]
  by_cases hk : k = 2 ∨ k = 3
  · rw [if_pos hk, if_pos hk]
    rw [if_pos hk] at h5
    simp only [decide_eq_true_eq] at h5
    rw [row_print h5]
    rfl
  · rw [if_neg hk, if_neg hk]
    rw [if_neg hk] at h5
    simp only [decide_eq_true_eq] at h5
    rw [List.length_map, if_pos h5, vals_print row _ (Nat.le_refl _)]
    rfl
/-- Values of 64 bits. -/
def S64 (x : St) : Prop := ∀ v ∈ x.row, -9223372036854775808 ≤ v.n ∧ v.n ≤ 9223372036854775807
theorem gd_valT {v : Val} (h : mayB v = true) (h6 : -9223372036854775808 ≤ v.n ∧ v.n ≤ 9223372036854775807) : Gd (valT v) := by
  have hm : mayNd ⟨1, 0, v⟩ = true := by unfold mayNd; simp [h]
  have h2 := gd_nd hm h6
  have e : ndT ⟨1, 0, v⟩ = [valT v] := by
    unfold ndT valT
    rw [if_neg (by simp), if_pos rfl]
    repeat' split
    all_goals rfl
  rw [e] at h2
  exact h2 _ (by simp)
theorem toks_gdS {x : St} (h : mayS x = true) (h6 : S64 x) : G (toksS x) := by
  obtain ⟨k, nm, row⟩ := x
  unfold mayS at h
  simp only [Bool.and_eq_true, decide_eq_true_eq, List.all_eq_true] at h
  obtain ⟨h1, h2, h3, h4, h5⟩ := h
  have hd : Gd (tW (doW k)) := by
    have : k = 0 ∨ k = 1 ∨ k = 2 ∨ k = 3 ∨ k = 4 ∨ k = 5 := by omega
    rcases this with rfl | rfl | rfl | rfl | rfl | rfl <;> exact gd_tW (by decide)
  intro t ht
  unfold toksS at ht
  rcases List.mem_cons.1 ht with rfl | ht
  · exact hd
  rcases List.mem_cons.1 ht with rfl | ht
  · exact gd_tN h3
  simp only at ht
  split at ht
  · rcases List.mem_cons.1 ht with rfl | ht
    · exact gd_tS (by decide)
    rcases List.mem_append.1 ht with ht | ht
    · exact gd_sep row (fun v hv t ht => by simp at ht; subst ht; exact gd_valT (h4 v hv) (h6 v hv)) t ht
    · simp at ht; subst ht; exact gd_tS (by decide)
  · obtain ⟨v, hv, rfl⟩ := List.mem_map.1 ht
    exact gd_valT (h4 v hv) (h6 v hv)
theorem print_readS {x : St} (h : mayS x = true) (h6 : S64 x) : (lexL (printL (toksS x))).bind parseS = some x := by
  have hg := toks_gdS h h6
  rw [lex_print _ (fun t ht => (hg t ht).1) (fun t ht => (hg t ht).2)]
  exact parse_toksS h
/-- What is read may be. -/
theorem val_acc {l r : List Tk} {v : Val} (h : valP l = some (v, r)) (hg : G l) : (mayB v = true ∧ -9223372036854775808 ≤ v.n ∧ v.n ≤ 9223372036854775807) ∧ G r ∧ sz [valT v] + sz r = sz l := by
  have z0 : (-9223372036854775808 : Int) ≤ 0 := by decide
  have z1 : (0 : Int) ≤ 9223372036854775807 := by decide
  cases l with
  | nil => cases h
  | cons t q =>
    rw [valP] at h
    split at h
    · rename_i hk
      simp only [Option.some.injEq, Prod.mk.injEq] at h
      obtain ⟨rfl, rfl⟩ := h
      obtain ⟨hm, h6⟩ := hg.head
      obtain ⟨k, s, v⟩ := t
      simp only [beq_iff_eq] at hk
      subst hk
      unfold mayT at hm
      simp only at hm
      rw [if_neg (by decide), if_pos (by decide)] at hm
      simp only [Bool.and_eq_true, Bool.or_eq_true, beq_iff_eq] at hm
      obtain ⟨hs, hk, hv⟩ := hm
      refine ⟨⟨hv, h6⟩, hg.tail, ?_⟩
      have e : valT v = ⟨1, emp, v⟩ := by
        unfold valT
        have n1 : v ≠ nl := fun e => by rw [e] at hk; simp [nl] at hk
        have n2 : v ≠ tt := fun e => by rw [e] at hk; simp [tt] at hk
        have n3 : v ≠ ff := fun e => by rw [e] at hk; simp [ff] at hk
        simp only [Val.eq_false n1, Val.eq_false n2, Val.eq_false n3]
        rfl
      rw [e]
      simp only [sz]
      rfl
    split at h
    · rename_i hc
      simp only [Option.some.injEq, Prod.mk.injEq] at h
      obtain ⟨rfl, rfl⟩ := h
      refine ⟨⟨by kernel_rfl, z0, z1⟩, hg.tail, ?_⟩
      have e : valT nl = tW w_null := by kernel_rfl
      rw [sz_cons t q, isW_len hc, e]
      simp only [sz, sz_tW]
    split at h
    · rename_i hc
      simp only [Option.some.injEq, Prod.mk.injEq] at h
      obtain ⟨rfl, rfl⟩ := h
      refine ⟨⟨by kernel_rfl, (by decide : (-9223372036854775808 : Int) ≤ 1), (by decide : (1 : Int) ≤ 9223372036854775807)⟩, hg.tail, ?_⟩
      have e : valT tt = tW w_true := by kernel_rfl
      rw [sz_cons t q, isW_len hc, e]
      simp only [sz, sz_tW]
    split at h
    · rename_i hc
      simp only [Option.some.injEq, Prod.mk.injEq] at h
      obtain ⟨rfl, rfl⟩ := h
      refine ⟨⟨by kernel_rfl, z0, z1⟩, hg.tail, ?_⟩
      have e : valT ff = tW w_false := by kernel_rfl
      rw [sz_cons t q, isW_len hc, e]
      simp only [sz, sz_tW]
    · cases h
theorem vals_acc : ∀ (n : Nat) (l : List Tk) (vs : List Val), valsF n l = some vs → G l → (∀ v ∈ vs, mayB v = true ∧ -9223372036854775808 ≤ v.n ∧ v.n ≤ 9223372036854775807) ∧ sz (vs.map valT) = sz l ∧ vs.length = l.length
  | m, [], vs, h, _ => by
    have : vs = [] := by
      cases m <;> simp [valsF] at h <;> exact h
    subst this
    exact ⟨fun v hv => (by cases hv), rfl, rfl⟩
  | 0, t :: q, vs, h, _ => by cases h
  | n + 1, t :: q, vs, h, hg => by
    rw [valsF] at h
    have hq : ∃ v, valP (t :: q) = some (v, q) ∨ valP (t :: q) = none := by
      rw [valP]
      repeat' split
      all_goals first | exact ⟨_, .inl rfl⟩ | exact ⟨nl, .inr rfl⟩
    obtain ⟨v, hq | hq⟩ := hq
    · rw [hq] at h
      simp only [Option.bind_some] at h
      obtain ⟨v1, v2, v3⟩ := val_acc hq hg
      cases he : valsF n q with
      | none => rw [he] at h; cases h
      | some ws =>
        rw [he] at h
        simp only [Option.map_some, Option.some.injEq] at h
        subst h
        obtain ⟨k1, k2, k3⟩ := vals_acc n q ws he v2
        refine ⟨fun y hy => ?_, ?_, by simp [k3]⟩
        · rcases List.mem_cons.1 hy with rfl | hy
          · exact v1
          · exact k1 y hy
        · rw [List.map_cons]
          simp only [sz] at v3 ⊢
          omega
    · rw [hq] at h; cases h
theorem row_acc {l : List Tk} {vs : List Val} (h : rowP l = some vs) (hg : G l) : (∀ v ∈ vs, mayB v = true ∧ -9223372036854775808 ≤ v.n ∧ v.n ≤ 9223372036854775807) ∧ vs.length ≤ 40 ∧ sz (tS s_lp :: (sepT (fun v => [valT v]) vs ++ [tS s_rp])) = sz l := by
  unfold rowP at h
  cases hn : needP s_lp l with
  | none => rw [hn] at h; cases h
  | some r =>
    rw [hn] at h
    simp only [Option.bind_some] at h
    obtain ⟨n1, n2⟩ := need_acc hn hg
    obtain ⟨t1, t2⟩ := take_acc s_rp r n1
    split at h
    · rename_i hc
      rw [hc] at t2
      simp only [if_true] at t2
      split at h
      · rename_i he
        simp only [Option.some.injEq] at h
        subst h
        refine ⟨fun v hv => (by cases hv), by simp, ?_⟩
        rw [List.isEmpty_iff.1 he] at t2
        simp only [sepT, List.nil_append, sz, sz_tS] at t2 ⊢
        omega
      · cases h
    · cases hs : sepP valP r with
      | none => rw [hs] at h; cases h
      | some p =>
        obtain ⟨ws, q⟩ := p
        rw [hs] at h
        simp only [Option.bind_some] at h
        obtain ⟨_, c1, c2, c3⟩ := sepF_acc (f := fun v => [valT v]) (V := fun v => mayB v = true ∧ -9223372036854775808 ≤ v.n ∧ v.n ≤ 9223372036854775807) (fun l r a ha hg => val_acc ha hg) _ _ _ _ hs n1
        cases hr : needP s_rp q with
        | none => rw [hr] at h; cases h
        | some q2 =>
          rw [hr] at h
          simp only [Option.bind_some] at h
          obtain ⟨r1, r2⟩ := need_acc hr c2
          split at h
          · rename_i hle
            simp only [Option.some.injEq] at h
            subst h
            refine ⟨c1, hle.2, ?_⟩
            rw [List.isEmpty_iff.1 hle.1] at r2
            rw [sz_cons, sz_app]
            simp only [sz, sz_tS] at r2 ⊢
            omega
          · cases h
theorem one_acc : ∀ (ws : List (List UInt8)) (i k : Int) (t : Tk), oneF ws i t = some k → i ≤ k ∧ k < i + ws.length ∧ ∃ s, ws[(k - i).toNat]? = some s ∧ isW s t = true
  | [], _, _, _, h => by cases h
  | s :: ws, i, k, t, h => by
    rw [oneF] at h
    split at h
    · rename_i hc
      simp only [Option.some.injEq] at h
      subst h
      refine ⟨Int.le_refl _, by simp; omega, s, by simp, hc⟩
    · obtain ⟨h1, h2, s2, h3, h4⟩ := one_acc ws (i + 1) k t h
      refine ⟨by omega, by simp at h2 ⊢; omega, s2, ?_, h4⟩
      rw [show (k - i).toNat = (k - (i + 1)).toNat + 1 by omega]
      simpa using h3
theorem doW_at {k : Int} (h1 : 0 ≤ k) (h2 : k ≤ 5) : stWs[(k - 0).toNat]? = some (doW k) := by
  have : k = 0 ∨ k = 1 ∨ k = 2 ∨ k = 3 ∨ k = 4 ∨ k = 5 := by omega
  rcases this with rfl | rfl | rfl | rfl | rfl | rfl <;> rfl
theorem parse_accS {l : List Tk} {x : St} (h : parseS l = some x) (hg : G l) : mayS x = true ∧ S64 x ∧ sz (toksS x) = sz l := by
  unfold parseS at h
  cases l with
  | nil => cases h
  | cons t q =>
    cases ho : oneF stWs 0 t with
    | none => rw [oneP, ho] at h; cases h
    | some k =>
      rw [oneP, ho] at h
      simp only [Option.map_some, Option.bind_some] at h
      obtain ⟨k1, k2, s, k3, k4⟩ := one_acc _ _ _ _ ho
      have hk5 : k ≤ 5 := by
        have : stWs.length = 6 := rfl
        omega
      rw [doW_at k1 hk5] at k3
      simp only [Option.some.injEq] at k3
      subst k3
      have hl := isW_len k4
      cases hn : nameP q with
      | none => rw [hn] at h; cases h
      | some a =>
        obtain ⟨nm, q2⟩ := a
        rw [hn] at h
        simp only [Option.bind_some] at h
        obtain ⟨n1, n2, n3⟩ := name_acc hn hg.tail
        have e2 : sz [tN nm] = (txtT (tN nm)).length + 1 := by simp [sz]
        split at h
        · rename_i hk
          cases hr : rowP q2 with
          | none => rw [hr] at h; cases h
          | some vs =>
            rw [hr] at h
            simp only [Option.map_some, Option.some.injEq] at h
            subst h
            obtain ⟨r1, r2, r3⟩ := row_acc hr n2
            refine ⟨?_, fun v hv => (r1 v hv).2, ?_⟩
            · unfold mayS
              simp only [if_pos hk, Bool.and_eq_true, decide_eq_true_eq, List.all_eq_true]
              exact ⟨k1, hk5, n1, fun v hv => (r1 v hv).1, r2⟩
            · unfold toksS
              simp only [if_pos hk]
              rw [sz_cons, sz_cons, sz_cons t q, sz_tW, r3]
              omega
        · rename_i hk
          split at h
          · rename_i hm
            cases hv : valsF q2.length q2 with
            | none => rw [hv] at h; cases h
            | some vs =>
              rw [hv] at h
              simp only [Option.map_some, Option.some.injEq] at h
              subst h
              obtain ⟨r1, r2, r3⟩ := vals_acc _ _ _ hv n2
              refine ⟨?_, fun v hv => (r1 v hv).2, ?_⟩
              · unfold mayS
                simp only [if_neg hk, Bool.and_eq_true, decide_eq_true_eq, List.all_eq_true]
                exact ⟨k1, hk5, n1, fun v hv => (r1 v hv).1, by rw [r3]; exact hm⟩
              · unfold toksS
                simp only [if_neg hk]
                rw [sz_cons, sz_cons, sz_cons t q, sz_tW, r2]
                omega
          · cases h
theorem read_printS {s : List UInt8} {a : List Tk} {x : St} (hs : lexL s = some a) (hp : parseS a = some x) : mayS x = true ∧ S64 x ∧ (printL (toksS x)).length ≤ 2 * s.length := by
  have hm := lex_may s.length s a (Nat.le_refl _) hs
  have hg : G a := fun t ht => hm t ht
  obtain ⟨h1, h2, h3⟩ := parse_accS hp hg
  have h4 := sz_tl a hg
  have h5 := lex_cost s.length s a (Nat.le_refl _) hs
  have h6 := print_sz (toksS x)
  exact ⟨h1, h2, by omega⟩
end Go.Proofs.YtjgpmnffagdhlaaGreatDoor
namespace Go.Proofs.YtjgpmnffagdhlaaGreatDoor
open Go Go.RowKit
section
variable {α : Type} {rd : α → List Value} {S : Nat}
/-- The slice at A reads as the elements xs, each of which is S cells. -/
def SlG (W : World) (A : Option Addr) (S : Nat) (rd : α → List Value) (xs : List α) : Prop :=
  xs = [] ∨ ∃ b off, A = some ⟨b, off, none⟩ ∧ b < W.heap.size ∧ ∀ i x, xs[i]? = some x → ∀ j u, (rd x)[j]? = some u → W.cell? ⟨b, off + i * S + j, none⟩ = some u
theorem SlG.after {w w' : World} {A : Option Addr} {xs : List α} (h : SlG w A S rd xs) (hb : Below w.heap.size w w') : SlG w' A S rd xs := by
  rcases h with h | ⟨b, off, hA, hlt, h⟩
  · exact .inl h
  · exact .inr ⟨b, off, hA, Nat.lt_of_lt_of_le hlt hb.size, fun i x hx j u hu => (hb.cell hlt).trans (h i x hx j u hu)⟩
theorem SlG.alloc {w : World} {A : Option Addr} {xs : List α} (h : SlG w A S rd xs) (o : Obj) : SlG (w.alloc o) A S rd xs := h.after (below_one w o)
/-- Cell for cell. -/
theorem flat_at (hl : ∀ x, (rd x).length = S) : ∀ (xs : List α) (i j : Nat) (x : α), xs[i]? = some x → j < S → (xs.flatMap rd)[i * S + j]? = (rd x)[j]?
  | [], i, j, x, h, _ => by simp at h
  | y :: r, 0, j, x, h, hj => by
    simp at h; subst h
    rw [List.flatMap_cons, Nat.zero_mul, Nat.zero_add, List.getElem?_append_left (by rw [hl]; exact hj)]
  | y :: r, i + 1, j, x, h, hj => by
    rw [List.flatMap_cons, List.getElem?_append_right (by rw [hl, Nat.succ_mul]; omega), hl, show (i + 1) * S + j - S = i * S + j by rw [Nat.succ_mul]; omega]
    exact flat_at hl r i j x (by simpa using h) hj
theorem flat_len (hl : ∀ x, (rd x).length = S) : ∀ xs : List α, (xs.flatMap rd).length = xs.length * S
  | [] => by simp
  | x :: r => by rw [List.flatMap_cons, List.length_append, hl, flat_len hl r, List.length_cons, Nat.succ_mul]; omega
theorem SlG.flat {w : World} {xs : List α} {b off : Nat} (hl : ∀ x, (rd x).length = S) (hS : 0 < S) (h : ∀ i x, xs[i]? = some x → ∀ j u, (rd x)[j]? = some u → w.cell? ⟨b, off + i * S + j, none⟩ = some u) :
    ∀ j u, (xs.flatMap rd)[j]? = some u → w.cell? ⟨b, off + j, none⟩ = some u := by
  intro j u hj
  have hlt : j < xs.length * S := by
    have := (List.getElem?_eq_some_iff.1 hj).1
    rwa [flat_len hl] at this
  have hi : j / S < xs.length := (Nat.div_lt_iff_lt_mul hS).2 hlt
  have hx : xs[j / S]? = some xs[j / S] := List.getElem?_eq_getElem hi
  have e : j / S * S + j % S = j := by rw [Nat.mul_comm]; exact Nat.div_add_mod j S
  have h1 := flat_at hl xs (j / S) (j % S) _ hx (Nat.mod_lt _ hS)
  rw [e] at h1
  have h2 := h (j / S) _ hx (j % S) u (h1.symm.trans hj)
  rwa [Nat.add_assoc, e] at h2
theorem SlG.new {w : World} {cs : Array Value} {E : TypeId} (hl : ∀ x, (rd x).length = S) (xs : List α) (h : cs = (xs.flatMap rd).toArray) : SlG (w.alloc (.cells cs E)) (some ⟨w.heap.size, 0, none⟩) S rd xs := by
  subst h
  refine .inr ⟨w.heap.size, 0, rfl, by simp, fun i x hx j u hu => ?_⟩
  have e0 : (w.alloc (.cells (xs.flatMap rd).toArray E)).heap[w.heap.size]? = some (.cells (xs.flatMap rd).toArray E (0, 0)) := by
    show (w.heap.push _)[w.heap.size]? = _
    simp
  have hj : j < S := by have := (List.getElem?_eq_some_iff.1 hu).1; rwa [hl] at this
  simp only [World.cell?, e0, Option.isSome_none, Bool.false_eq_true, if_false, List.getElem?_toArray]
  rw [Nat.zero_add, flat_at hl xs i j x hx hj]
  exact hu
/-- What must be known of the elements of a slice of type T. -/
structure ElOk (P : Program) (T E : TypeId) (S bytes : Nat) (z : Value) (rd : α → List Value) : Prop where
  under : P.underlying T = some (.slice E)
  info : (P.info? E).map (fun i => (i.zero, i.size, i.bytes)) = some (some z, S, bytes)
  zs : z.cells.size = S
  pos : 0 < S
  len : ∀ x, (rd x).length = S
  one : ∀ x u, u ∈ rd x → u.oneCell' = true
/-- The slice v is the call's own, and reads as xs; it may be nil. -/
def OwnG (w : World) (B : Nat) (E : TypeId) (S : Nat) (rd : α → List Value) (v : Value) (xs : List α) : Prop := w.ownsRow B E S v xs.length (xs.flatMap rd)
theorem OwnG.nil (w : World) (B : Nat) (E : TypeId) : OwnG w B E S rd (.slice none 0 0) [] := World.ownsRow_nil w B E S
theorem OwnG.made (w : World) (B : Nat) (E : TypeId) (cur : Array Value) (cap : Nat) (hB : B ≤ w.heap.size) (hm : cap ≤ maxLen) (hs : cur.size = cap * S) : OwnG (w.alloc (.cells cur E)) B E S rd (.slice (some ⟨w.heap.size, 0, none⟩) 0 cap) [] :=
  World.ownsRow_made w cur cap hB hm hs
theorem OwnG.lt {w : World} {B : Nat} {E : TypeId} {v : Value} {xs : List α} (h : OwnG w B E S rd v xs) : ∀ k, v.ownBlock = some k → B ≤ k ∧ k < w.heap.size := fun k hk => World.ownsRow.lt h k hk
theorem OwnG.same {w w' : World} {B : Nat} {E : TypeId} {v : Value} {xs : List α} (h : OwnG w B E S rd v xs) (hb : ∀ k, v.ownBlock = some k → w'.heap[k]? = w.heap[k]?) : OwnG w' B E S rd v xs := by
  obtain ⟨h1, h2⟩ := h
  refine ⟨h1, ?_⟩
  rcases h2 with h2 | ⟨g', cap, cur, hv, hB, hh, h3⟩
  · exact .inl h2
  · exact .inr ⟨g', cap, cur, hv, hB, (hb g' (by rw [hv]; rfl)).trans hh, h3⟩
theorem OwnG.after {w w' : World} {B : Nat} {E : TypeId} {v : Value} {xs : List α} (h : OwnG w B E S rd v xs) (hb : Below w.heap.size w w') : OwnG w' B E S rd v xs := h.same fun k hk => hb.block k (h.lt k hk).2
theorem OwnG.alloc {w : World} {B : Nat} {E : TypeId} {v : Value} {xs : List α} (h : OwnG w B E S rd v xs) (o : Obj) : OwnG (w.alloc o) B E S rd v xs := h.after (below_one w o)
theorem OwnG.mono {w : World} {B B' : Nat} {E : TypeId} {v : Value} {xs : List α} (h : OwnG w B E S rd v xs) (hB : B' ≤ B) : OwnG w B' E S rd v xs := by
  obtain ⟨h1, h2⟩ := h
  refine ⟨h1, ?_⟩
  rcases h2 with h2 | ⟨g', cap, cur, hv, hb, h3⟩
  · exact .inl h2
  · exact .inr ⟨g', cap, cur, hv, by omega, h3⟩
theorem OwnG.sl {w : World} {B : Nat} {E : TypeId} {v : Value} {xs : List α} (hl : ∀ x, (rd x).length = S) (h : OwnG w B E S rd v xs) : ∃ A c, v = .slice A xs.length c ∧ xs.length ≤ c ∧ c ≤ maxLen ∧ SlG w A S rd xs := by
  rcases h.2 with ⟨rfl, hn⟩ | ⟨g, cap, cur, rfl, hB, hh, hle, hm, _⟩
  · obtain rfl : xs = [] := List.eq_nil_of_length_eq_zero hn
    exact ⟨none, 0, rfl, Nat.le_refl _, Nat.zero_le _, .inl rfl⟩
  · refine ⟨some ⟨g, 0, none⟩, cap, rfl, hle, hm, .inr ⟨g, 0, rfl, (h.lt g rfl).2, fun i x hx j u hu => ?_⟩⟩
    have hj : j < S := by have := (List.getElem?_eq_some_iff.1 hu).1; rwa [hl] at this
    have := World.ownsRow.cells (g := g) h rfl (i * S + j) u ((flat_at hl xs i j x hx hj).trans hu)
    rwa [Go.WideShapes.add_plain, ← Nat.add_assoc] at this
theorem OwnG.isSlice {w : World} {B : Nat} {E : TypeId} {v : Value} {xs : List α} (h : OwnG w B E S rd v xs) : ∃ A c, v = .slice A xs.length c := by
  rcases h.2 with ⟨rfl, hn⟩ | ⟨g, cap, cur, rfl, _⟩
  · exact ⟨none, 0, by rw [hn]⟩
  · exact ⟨_, cap, rfl⟩
variable {P : Program} {T E : TypeId} {bytes : Nat} {z : Value}
theorem ElOk.parts (h : ElOk P T E S bytes z rd) : ∃ i : TypeInfo, P.info? E = some i ∧ i.zero = some z ∧ i.size = S ∧ i.bytes = bytes := by
  have hi := h.info
  cases e : P.info? E with
  | none => rw [e] at hi; cases hi
  | some i =>
    rw [e] at hi
    simp at hi
    exact ⟨i, rfl, hi.1, hi.2.1, hi.2.2⟩
theorem app_none (he : ElOk P T E S bytes z rd) (w : World) (v : Value) (B c : Nat) (ty : TypeId) (xs : List α) (h : OwnG w B E S rd v xs) : (Builtin.append_ #[T, T] ty #[v, .slice none 0 c]).run P w = .ok v w := by
  obtain ⟨i0, hi, hz0, hz1, hz2⟩ := he.parts
  rcases h.2 with ⟨rfl, _⟩ | ⟨g, cap, cur, rfl, _, _, hnc, _⟩
  · simp [Builtin.append_, run_underlying he.under, sizeOf, typeInfo, hi, Builtin.lenOf, Builtin.firstCells]
  · simp [Builtin.append_, run_underlying he.under, sizeOf, typeInfo, hi, Builtin.lenOf, Builtin.firstCells, hnc, storeCells]
/-- APPEND of a slice that reads as ys, onto one of the call's own. -/
theorem wpList_appG {ops : Array Oper} {rest : List Oper} {o : Oper} {a : Act} {Q : Exit → Act → World → Prop} {w : World} (he : ElOk P T E S bytes z rd) (hgd : o.guard = none) (s x : Operand) (ho : o.op = .call { callee := .builtin .append, args := #[s, x], argTypes := #[T, T] })
    (B : Nat) (v : Value) (xs ys : List α) (A : Option Addr) (n c : Nat) (hs : a.eval s = v) (hb : OwnG w B E S rd v xs) (hx : a.eval x = .slice A n c) (hn : ys.length = n) (hsl : SlG w A S rd ys)
    (hmax : xs.length + ys.length ≤ maxLen) (hbytes : (xs.length + ys.length) * bytes ≤ 140737488355328) (hB : B ≤ w.heap.size)
    (h : ∀ v' w', OwnG w' B E S rd v' (xs ++ ys) → w.grownBy w' v.ownBlock → wpList P ops Q rest (a.put o.dst v') w') : wpList P ops Q (o :: rest) a w := by
  obtain ⟨i0, hi, hz0, hz1, hz2⟩ := he.parts
  subst hn
  have some_case : ∀ (ad : Addr), A = some ad → (∀ j u, (ys.flatMap rd)[j]? = some u → w.cell? (ad.add j) = some u) → wpList P ops Q (o :: rest) a w := by
    intro ad hA hcells
    subst hA
    refine wpList_append_own_at _ hgd s x T ho B E i0 z S bytes he.under hi hz0 hz1 hz2 he.zs he.pos v xs.length (xs.flatMap rd) hs hb ad ys.length c (ys.flatMap rd) hx (flat_len he.len ys) hcells (fun u hu => by obtain ⟨q, _, hq⟩ := List.mem_flatMap.1 hu; exact he.one q u hq) hmax hbytes hB ?_
    intro v' w' hown' hgrow _ _
    refine h v' w' ?_ hgrow
    unfold OwnG
    rw [List.flatMap_append, List.length_append]
    exact hown'
  rcases hsl with rfl | ⟨b, off, hA, hlt, hc⟩
  · cases A with
    | some ad => exact some_case ad rfl (fun j u hj => by simp at hj)
    | none =>
      refine wpList_plain hgd fun K hK => ?_
      have hr := app_none he w v B c o.type xs hb
      unfold Oper.wp execOp
      have hx' : a.eval x = .slice none 0 c := hx
      simp only [ho, resolve, invoke, builtin, Sem.run_bind, Sem.run_pure, Result.andThen_ok, List.map_toArray, List.map_cons, List.map_nil, hs, hx', hr]
      exact hK _ _ (h v w (by rw [List.append_nil]; exact hb) (World.grownBy.refl w _))
  · refine some_case ⟨b, off, none⟩ hA fun j u hj => ?_
    rw [Go.WideShapes.add_plain]
    exact SlG.flat he.len he.pos hc j u hj
/-- append of one element or more, in a statement whose order Go leaves open. -/
theorem step_appG {ops : Array Oper} {o : Oper} {a : Act} {w : World} {K : Act → World → Prop} {Q : Exit → Act → World → Prop} {F : Prop} (he : ElOk P T E S bytes z rd) (hgd : o.guard = none) (s y : Operand) (ho : o.op = .call { callee := .builtin .append, args := #[s, y], argTypes := #[T, T] })
    (B : Nat) (v : Value) (xs ys : List α) (hs : a.eval s = v) (hb : OwnG w B E S rd v xs) (A : Option Addr) (n c : Nat) (hy : a.eval y = .slice A n c) (hn : ys.length = n) (hn0 : ys ≠ []) (hsl : SlG w A S rd ys)
    (hmax : xs.length + ys.length ≤ maxLen) (hbytes : (xs.length + ys.length) * bytes ≤ 140737488355328) (hB : B ≤ w.heap.size)
    (h : ∀ g' cap w', OwnG w' B E S rd (.slice (some ⟨g', 0, none⟩) (xs.length + ys.length) cap) (xs ++ ys) → w.grownBy w' v.ownBlock → K (a.put o.dst (.slice (some ⟨g', 0, none⟩) (xs.length + ys.length) cap)) w') :
    if Region.wanted o (yielded ops a.tmps) = true then Oper.wp P o a w K Q else F := by
  obtain ⟨i0, hi, hz0, hz1, hz2⟩ := he.parts
  subst hn
  rcases hsl with h0 | ⟨b, off, rfl, hlt, hc⟩
  · exact absurd h0 hn0
  refine step_append_lies w hgd s y T ho B E i0 z S bytes he.under hi hz0 hz1 hz2 he.zs he.pos v xs.length (xs.flatMap rd) hs hb ⟨b, off, none⟩ ys.length c (ys.flatMap rd) hy (flat_len he.len ys) (fun j u hj => by rw [Go.WideShapes.add_plain]; exact SlG.flat he.len he.pos hc j u hj) (fun u hu => by obtain ⟨q, _, hq⟩ := List.mem_flatMap.1 hu; exact he.one q u hq) (List.length_pos_iff.2 hn0) hmax hbytes hB _ rfl ?_
  intro g' cap w' hown' hgrow _ _
  refine h g' cap w' ?_ hgrow
  unfold OwnG
  rw [List.flatMap_append, List.length_append]
  exact hown'
end
end Go.Proofs.YtjgpmnffagdhlaaGreatDoor
namespace Go.Proofs.YtjgpmnffagdhlaaGreatDoor
open Go Go.RowKit
set_option maxRecDepth 100000
/-- A row, where it lies, and what it reads. -/
structure Hd where
  A : Option Addr
  n : Nat
  c : Nat
  xs : List Val
abbrev Hd.v (h : Hd) : Value := .slice h.A h.n h.c
def rdV (x : Val) : List Value := [.int .i64 x.k, .int .i64 x.n, .string x.s]
def rdI (x : Int) : List Value := [.int .i64 x]
def rdS (l : List UInt8) : List Value := [.string ⟨l.toArray⟩]
/-- It reads so in w. -/
structure Hd.In (w : World) (h : Hd) : Prop where
  len : h.xs.length = h.n
  max : h.n ≤ maxLen
  sl : Sl w h.A h.xs
theorem Hd.In.after {w w' : World} {h : Hd} (hi : Hd.In w h) (hb : Below w.heap.size w w') : Hd.In w' h := ⟨hi.len, hi.max, hi.sl.after hb⟩
theorem vOk : ElOk Tryz.prog 48 59 3 32 nl.v rdV where
  under := Tryz.underlying48
  info := by kernel_rfl
  zs := rfl
  pos := by decide
  len := fun _ => rfl
  one := fun x u hu => by
    simp [rdV] at hu
    rcases hu with rfl | rfl | rfl <;> rfl
theorem iOk : ElOk Tryz.prog 29 3 1 8 (.int .i64 0) rdI where
  under := Tryz.underlying29
  info := by kernel_rfl
  zs := rfl
  pos := by decide
  len := fun _ => rfl
  one := fun x u hu => by
    simp [rdI] at hu
    rcases hu with rfl; rfl
theorem SlG.sl {w : World} {A : Option Addr} {xs : List Val} (h : SlG w A 3 rdV xs) : Sl w A xs := by
  rcases h with h | ⟨b, off, hA, hlt, h⟩
  · exact .inl h
  · exact .inr ⟨b, off, hA, hlt, fun i x hx => ⟨h i x hx 0 _ rfl, h i x hx 1 _ rfl, h i x hx 2 _ rfl⟩⟩
theorem Sl.slG {w : World} {A : Option Addr} {xs : List Val} (h : Sl w A xs) : SlG w A 3 rdV xs := by
  rcases h with h | ⟨b, off, hA, hlt, h⟩
  · exact .inl h
  · refine .inr ⟨b, off, hA, hlt, fun i x hx j u hu => ?_⟩
    obtain ⟨h0, h1, h2⟩ := h i x hx
    match j, hu with
    | 0, hu => simp [rdV] at hu; subst hu; exact h0
    | 1, hu => simp [rdV] at hu; subst hu; exact h1
    | 2, hu => simp [rdV] at hu; subst hu; exact h2
    | j + 3, hu => simp [rdV] at hu
/-- What a slice of one cell an element reads at k. -/
theorem SlG.at1 {α : Type} {rd : α → List Value} {w : World} {A : Option Addr} {xs : List α} (h : SlG w A 1 rd xs) {k : Nat} (hk : k < xs.length) :
    ∃ b off x, A = some ⟨b, off, none⟩ ∧ b < w.heap.size ∧ xs[k]? = some x ∧ ∀ u, (rd x)[0]? = some u → w.cell? ⟨b, off + k, none⟩ = some u := by
  rcases h with rfl | ⟨b, off, hA, hlt, h⟩
  · simp at hk
  · refine ⟨b, off, xs[k], hA, hlt, List.getElem?_eq_getElem hk, fun u hu => ?_⟩
    have := h k xs[k] (List.getElem?_eq_getElem hk) 0 u hu
    rwa [Nat.mul_one, Nat.add_zero] at this
abbrev OwnV (w : World) (B : Nat) (v : Value) (xs : List Val) : Prop := OwnG w B 59 3 rdV v xs
/-- A row of the call's own is a row that lies somewhere. -/
theorem OwnG.hd {w : World} {B : Nat} {v : Value} {xs : List Val} (h : OwnV w B v xs) : ∃ h : Hd, v = h.v ∧ Hd.In w h ∧ h.xs = xs ∧ (∀ b off, h.A = some ⟨b, off, none⟩ → B ≤ b ∧ b < w.heap.size) ∧ h.n ≤ h.c := by
  obtain ⟨A, c, hv, hc, hm, hs⟩ := h.sl vOk.len
  refine ⟨⟨A, xs.length, c, xs⟩, hv, ⟨rfl, Nat.le_trans hc hm, hs.sl⟩, rfl, fun b off hA => ?_, hc⟩
  simp only at hA
  subst hA
  exact h.lt b (by rw [hv]; rfl)
section
variable {α : Type} {rd : α → List Value} {S N : Nat}
/-- Block g holds N elements' cells, none frozen; the first ones are those of xs. -/
structure Mk (w : World) (g S N : Nat) (rd : α → List Value) (xs : List α) : Prop where
  lt : g < w.heap.size
  all : ∀ j, j < N * S → ∃ u, w.cell? ⟨g, j, none⟩ = some u
  thaw : ∀ j, w.frozen? ⟨g, j, none⟩ = false
  at' : ∀ i x, xs[i]? = some x → ∀ j u, (rd x)[j]? = some u → w.cell? ⟨g, i * S + j, none⟩ = some u
theorem Mk.same {w w' : World} {g : Nat} {xs : List α} (h : Mk w g S N rd xs) (hs : w.heap.size ≤ w'.heap.size) (hb : w'.heap[g]? = w.heap[g]?) : Mk w' g S N rd xs := by
  have hc : ∀ j, w'.cell? ⟨g, j, none⟩ = w.cell? ⟨g, j, none⟩ := fun j => by simp only [World.cell?, hb]
  have hf : ∀ j, w'.frozen? ⟨g, j, none⟩ = w.frozen? ⟨g, j, none⟩ := fun j => by simp only [World.frozen?, hb]
  exact ⟨Nat.lt_of_lt_of_le h.lt hs, fun j hj => by rw [hc]; exact h.all j hj, fun j => by rw [hf]; exact h.thaw j, fun i x hx j u hu => by rw [hc]; exact h.at' i x hx j u hu⟩
theorem Mk.after {w w' : World} {g B : Nat} {xs : List α} (h : Mk w g S N rd xs) (hb : Below B w w') (hg : g < B) : Mk w' g S N rd xs := h.same hb.size (hb.block g hg)
theorem Mk.new (w : World) (cs : Array Value) (T : TypeId) (h : cs.size = N * S) : Mk (w.alloc (.cells cs T)) w.heap.size S N rd ([] : List α) := by
  have e0 : (w.alloc (.cells cs T)).heap[w.heap.size]? = some (.cells cs T (0, 0)) := by
    show (w.heap.push _)[w.heap.size]? = _
    simp
  refine ⟨by simp, fun j hj => ?_, fun j => ?_, fun i x hx => by simp at hx⟩
  · refine ⟨cs[j]'(by omega), ?_⟩
    simp only [World.cell?, e0, Option.isSome_none, Bool.false_eq_true, if_false]
    exact Array.getElem?_eq_getElem _
  · unfold World.frozen?
    rw [show (w.alloc (.cells cs T)).heap[(⟨w.heap.size, j, none⟩ : Addr).block]? = some (.cells cs T (0, 0)) from e0]
    simp
theorem Mk.slG {w : World} {g : Nat} {xs : List α} (h : Mk w g S N rd xs) : SlG w (some ⟨g, 0, none⟩) S rd xs :=
  .inr ⟨g, 0, rfl, h.lt, fun i x hx j u hu => by rw [Nat.zero_add]; exact h.at' i x hx j u hu⟩
/-- One cell written: the next element. -/
theorem Mk.set1 {w : World} {g : Nat} {xs : List α} (hl : ∀ x, (rd x).length = 1) (h : Mk w g 1 N rd xs) (x : α) (v : Value) (hv : rd x = [v]) (hlt : xs.length < N) : Mk (w.setCell ⟨g, xs.length, none⟩ v) g 1 N rd (xs ++ [x]) := by
  obtain ⟨u0, h0⟩ := h.all xs.length (by omega)
  have same : (w.setCell ⟨g, xs.length, none⟩ v).cell? ⟨g, xs.length, none⟩ = some v := World.cell?_setCell_same _ _ _ h0
  have other : ∀ j, j ≠ xs.length → (w.setCell ⟨g, xs.length, none⟩ v).cell? ⟨g, j, none⟩ = w.cell? ⟨g, j, none⟩ := fun j hj => World.cell?_setCell_other _ _ _ _ (by intro e; simp only [Addr.mk.injEq] at e; exact hj e.2.1.symm)
  refine ⟨by simpa using h.lt, fun j hj => ?_, fun j => by rw [World.frozen?_setCell]; exact h.thaw j, fun i y hy j u hu => ?_⟩
  · by_cases e : j = xs.length
    · subst e; exact ⟨v, same⟩
    · rw [other j e]; exact h.all j hj
  · have hj : j < 1 := by have := (List.getElem?_eq_some_iff.1 hu).1; rwa [hl] at this
    by_cases hi : i < xs.length
    · rw [List.getElem?_append_left hi] at hy
      rw [other _ (by omega)]
      exact h.at' i y hy j u hu
    · have hi' : i = xs.length := by
        have := (List.getElem?_eq_some_iff.1 hy).1
        simp at this; omega
      subst hi'
      simp at hy
      subst hy
      obtain rfl : j = 0 := by omega
      rw [hv] at hu
      simp at hu
      subst hu
      rw [Nat.mul_one, Nat.add_zero]
      exact same
/-- make: so many elements, all cells there. -/
theorem make_run {P : Program} {T E : TypeId} {bytes : Nat} {z : Value} (he : ElOk P T E S bytes z rd) (m : Nat) (hb : bytes * m ≤ 281474976710656) (hm : m ≤ maxLen) :
    ∃ cs : Array Value, cs.size = m * S ∧ ∀ w : World, (Instr.makeSlice T (.int .i64 (m : Int)) (.int .i64 (m : Int))).run P w = .ok (.slice (some ⟨w.heap.size, 0, none⟩) m m) (w.alloc (.cells cs E)) := by
  obtain ⟨i0, hi, hz0, hz1, hz2⟩ := he.parts
  refine ⟨madeCells z.cells (m * S), size_madeCells _ _, fun w => ?_⟩
  have h63 : (m : Int) ≤ 9223372036854775807 := by
    have h := hm
    simp [maxLen] at h
    omega
  have hb' : (i0.bytes : Int) * (m : Int) ≤ 281474976710656 := by
    rw [hz2]
    have h : ((bytes * m : Nat) : Int) ≤ 281474976710656 := by omega
    rwa [Int.natCast_mul] at h
  have hr := run_make (P := P) w T E i0 z he.under hi hz0 .i64 .i64 m m (by omega) (Int.le_refl _) hb' h63
  simp only [Int.toNat_natCast, hz1] at hr
  exact hr
theorem SlG.newAt {w : World} {cs : Array Value} {E : TypeId} {b : Nat} (hb : w.heap.size = b) (hl : ∀ x, (rd x).length = S) (xs : List α) (h : cs = (xs.flatMap rd).toArray) : SlG (w.alloc (.cells cs E)) (some ⟨b, 0, none⟩) S rd xs := by
  subst hb
  exact SlG.new hl xs h
end
theorem below_via {w a b : World} (h : Below w.heap.size w a) (g : Below a.heap.size a b) : Below w.heap.size w b := h.trans (g.mono h.size)
theorem below_al {w a : World} (h : Below w.heap.size w a) (o : Obj) : Below w.heap.size w (a.alloc o) := h.alloc h.size o
end Go.Proofs.YtjgpmnffagdhlaaGreatDoor
namespace Go.Proofs.YtjgpmnffagdhlaaGreatDoor
open Go Go.RowKit
set_option maxRecDepth 100000
/-- A slice that lies somewhere, of whatever elements. -/
structure Sx (α : Type) where
  A : Option Addr
  n : Nat
  c : Nat
  xs : List α
abbrev Sx.v {α : Type} (h : Sx α) : Value := .slice h.A h.n h.c
/-- It reads as its list. -/
structure Sx.In {α : Type} (w : World) (S : Nat) (rd : α → List Value) (h : Sx α) : Prop where
  len : h.xs.length = h.n
  max : h.n ≤ maxLen
  sl : SlG w h.A S rd h.xs
theorem Sx.In.after {α : Type} {w w' : World} {S : Nat} {rd : α → List Value} {h : Sx α} (hi : h.In w S rd) (hb : Below w.heap.size w w') : h.In w' S rd := ⟨hi.len, hi.max, hi.sl.after hb⟩
theorem SlG.atS {α : Type} {rd : α → List Value} {S : Nat} {w : World} {A : Option Addr} {xs : List α} (h : SlG w A S rd xs) {k : Nat} (hk : k < xs.length) :
    ∃ b off x, A = some ⟨b, off, none⟩ ∧ b < w.heap.size ∧ xs[k]? = some x ∧ ∀ j u, (rd x)[j]? = some u → w.cell? ⟨b, off + k * S + j, none⟩ = some u := by
  rcases h with rfl | ⟨b, off, hA, hlt, h⟩
  · simp at hk
  · have hx := List.getElem?_eq_getElem hk
    exact ⟨b, off, xs[k], hA, hlt, hx, h k xs[k] hx⟩
def rdN (x : Nd) : List Value := [.int .i64 x.op, .int .i64 x.n, .int .i64 x.v.k, .int .i64 x.v.n, .string x.v.s]
abbrev Nd.w (x : Nd) : Value := .agg #[.int .i64 x.op, .int .i64 x.n, .int .i64 x.v.k, .int .i64 x.v.n, .string x.v.s]
def rdCl (x : Cl) : List Value := [.string x.name, .int .i64 x.kind, .bool x.nul, .bool x.uni, .string x.ref, .int .i64 x.act]
abbrev Cl.w (x : Cl) : Value := .agg #[.string x.name, .int .i64 x.kind, .bool x.nul, .bool x.uni, .string x.ref, .int .i64 x.act]
def rdAg (x : Ag) : List Value := [.int .i64 x.fn, .int .i64 x.col]
abbrev Ag.w (x : Ag) : Value := .agg #[.int .i64 x.fn, .int .i64 x.col]
def rdX (x : Sx Nd) : List Value := [.slice x.A x.n x.c]
/-- A table, a view, a definition. -/
structure Tm where
  name : ByteArray
  cols : Sx Cl
  chks : Sx (Sx Nd)
structure Vm where
  name : ByteArray
  frm : ByteArray
  wth : ByteArray
  on0 : Int
  on1 : Int
  whr : Sx Nd
  pick : Sx Int
  grp : Bool
  aggs : Sx Ag
structure Dm where
  k : Int
  t : Tm
  v : Vm
abbrev Tm.w (x : Tm) : Value := .agg #[.string x.name, .slice x.cols.A x.cols.n x.cols.c, .slice x.chks.A x.chks.n x.chks.c]
abbrev Vm.w (x : Vm) : Value := .agg #[.string x.name, .string x.frm, .string x.wth, .int .i64 x.on0, .int .i64 x.on1, .slice x.whr.A x.whr.n x.whr.c, .slice x.pick.A x.pick.n x.pick.c, .bool x.grp, .slice x.aggs.A x.aggs.n x.aggs.c]
abbrev Dm.w (x : Dm) : Value := .agg #[.int .i64 x.k, .string x.t.name, .slice x.t.cols.A x.t.cols.n x.t.cols.c, .slice x.t.chks.A x.t.chks.n x.t.chks.c, .string x.v.name, .string x.v.frm, .string x.v.wth, .int .i64 x.v.on0, .int .i64 x.v.on1, .slice x.v.whr.A x.v.whr.n x.v.whr.c, .slice x.v.pick.A x.v.pick.n x.v.pick.c, .bool x.v.grp, .slice x.v.aggs.A x.v.aggs.n x.v.aggs.c]
def Tm.tb (x : Tm) : Tb := ⟨x.name, x.cols.xs, x.chks.xs.map (·.xs)⟩
def Vm.vw (x : Vm) : Vw := ⟨x.name, x.frm, x.wth, x.on0, x.on1, x.whr.xs, x.pick.xs, x.grp, x.aggs.xs⟩
def Dm.df (x : Dm) : Df := ⟨x.k, x.t.tb, x.v.vw⟩
structure Tm.In (w : World) (x : Tm) : Prop where
  cols : x.cols.In w 6 rdCl
  chks : x.chks.In w 1 rdX
  each : ∀ e ∈ x.chks.xs, e.In w 5 rdN
structure Vm.In (w : World) (x : Vm) : Prop where
  whr : x.whr.In w 5 rdN
  pick : x.pick.In w 1 rdI
  aggs : x.aggs.In w 2 rdAg
structure Dm.In (w : World) (x : Dm) : Prop where
  t : x.t.In w
  v : x.v.In w
theorem Tm.In.after {w w' : World} {x : Tm} (h : x.In w) (hb : Below w.heap.size w w') : x.In w' := ⟨h.cols.after hb, h.chks.after hb, fun e he => (h.each e he).after hb⟩
theorem Vm.In.after {w w' : World} {x : Vm} (h : x.In w) (hb : Below w.heap.size w w') : x.In w' := ⟨h.whr.after hb, h.pick.after hb, h.aggs.after hb⟩
theorem Dm.In.after {w w' : World} {x : Dm} (h : x.In w) (hb : Below w.heap.size w w') : x.In w' := ⟨h.t.after hb, h.v.after hb⟩
instance : DecidableEq ByteArray := fun a b => decidable_of_iff (a.toList = b.toList) ⟨toList_inj, fun h => by rw [h]⟩
instance : DecidableEq Nd := fun _ _ => decidable_of_iff _ Nd.eq_iff
instance : DecidableEq Cl := fun a b => decidable_of_iff (a.name = b.name ∧ a.kind = b.kind ∧ a.nul = b.nul ∧ a.uni = b.uni ∧ a.ref = b.ref ∧ a.act = b.act) (by cases a; cases b; simp)
instance : DecidableEq Ag := fun a b => decidable_of_iff (a.fn = b.fn ∧ a.col = b.col) (by cases a; cases b; simp)
instance : DecidableEq Tb := fun a b => decidable_of_iff (a.name = b.name ∧ a.cols = b.cols ∧ a.checks = b.checks) (by cases a; cases b; simp)
instance : DecidableEq Vw := fun a b => decidable_of_iff (a.name = b.name ∧ a.frm = b.frm ∧ a.wth = b.wth ∧ a.on0 = b.on0 ∧ a.on1 = b.on1 ∧ a.whr = b.whr ∧ a.pick = b.pick ∧ a.grp = b.grp ∧ a.aggs = b.aggs) (by cases a; cases b; simp)
instance : DecidableEq Df := fun a b => decidable_of_iff (a.k = b.k ∧ a.t = b.t ∧ a.v = b.v) (by cases a; cases b; simp)
def Nd.eqB (a b : Nd) : Bool := decide (a = b)
def Cl.eqB (a b : Cl) : Bool := decide (a = b)
def Ag.eqB (a b : Ag) : Bool := decide (a = b)
/-- '!=' on steps, columns, aggregates. -/
theorem run_neN (w : World) (k n vk vn k' n' vk' vn' : Int) (vs vs' : ByteArray) : (binOp .neq 66 (.agg #[.int .i64 k, .int .i64 n, .int .i64 vk, .int .i64 vn, .string vs]) (.agg #[.int .i64 k', .int .i64 n', .int .i64 vk', .int .i64 vn', .string vs'])).run Tryz.prog w = .ok (.bool !(Nd.eqB ⟨k, n, ⟨vk, vn, vs⟩⟩ ⟨k', n', ⟨vk', vn', vs'⟩⟩)) w := by
  have e : (Op.equalIn 10000 66 (.agg #[.int .i64 k, .int .i64 n, .int .i64 vk, .int .i64 vn, .string vs]) (.agg #[.int .i64 k', .int .i64 n', .int .i64 vk', .int .i64 vn', .string vs'])).run Tryz.prog w = .ok (decide ((⟨k, n, ⟨vk, vn, vs⟩⟩ : Nd) = ⟨k', n', ⟨vk', vn', vs'⟩⟩)) w := by
    simp [go_sem, Tryz.underlying66, Tryz.underlying59, Tryz.underlying3, Tryz.underlying9]
    have hs : (vs.toList = vs'.toList) ↔ vs = vs' := ⟨toList_inj, fun h => by rw [h]⟩
    by_cases h1 : k = k' <;> by_cases h2 : n = n' <;> by_cases h3 : vk = vk' <;> by_cases h4 : vn = vn' <;> by_cases h5 : vs = vs' <;> simp [hs, h1, h2, h3, h4, h5]
  rw [run_neq_struct, e]; rfl
theorem run_neC (w : World) (a b k k' ac ac' : _) (nu un nu' un' : Bool) (r r' : ByteArray) : (binOp .neq 64 (.agg #[.string a, .int .i64 k, .bool nu, .bool un, .string r, .int .i64 ac]) (.agg #[.string b, .int .i64 k', .bool nu', .bool un', .string r', .int .i64 ac'])).run Tryz.prog w = .ok (.bool !(Cl.eqB ⟨a, k, nu, un, r, ac⟩ ⟨b, k', nu', un', r', ac'⟩)) w := by
  have e : (Op.equalIn 10000 64 (.agg #[.string a, .int .i64 k, .bool nu, .bool un, .string r, .int .i64 ac]) (.agg #[.string b, .int .i64 k', .bool nu', .bool un', .string r', .int .i64 ac'])).run Tryz.prog w = .ok (decide ((⟨a, k, nu, un, r, ac⟩ : Cl) = ⟨b, k', nu', un', r', ac'⟩)) w := by
    simp [go_sem, Tryz.underlying64, Tryz.underlying3, Tryz.underlying4, Tryz.underlying9]
    have hs : ∀ x y : ByteArray, (x.toList = y.toList) ↔ x = y := fun x y => ⟨toList_inj, fun h => by rw [h]⟩
    by_cases h1 : a = b <;> by_cases h2 : k = k' <;> by_cases h3 : nu = nu' <;> by_cases h4 : un = un' <;> by_cases h5 : r = r' <;> by_cases h6 : ac = ac' <;> simp [hs, h1, h2, h3, h4, h5, h6]
  rw [run_neq_struct, e]; rfl
theorem run_neA (w : World) (f c f' c' : Int) : (binOp .neq 74 (.agg #[.int .i64 f, .int .i64 c]) (.agg #[.int .i64 f', .int .i64 c'])).run Tryz.prog w = .ok (.bool !(Ag.eqB ⟨f, c⟩ ⟨f', c'⟩)) w := by
  have e : (Op.equalIn 10000 74 (.agg #[.int .i64 f, .int .i64 c]) (.agg #[.int .i64 f', .int .i64 c'])).run Tryz.prog w = .ok (decide ((⟨f, c⟩ : Ag) = ⟨f', c'⟩)) w := by
    simp [go_sem, Tryz.underlying74, Tryz.underlying3]
    by_cases h1 : f = f' <;> by_cases h2 : c = c' <;> simp [h1, h2]
  rw [run_neq_struct, e]; rfl
end Go.Proofs.YtjgpmnffagdhlaaGreatDoor
namespace Go.Proofs.YtjgpmnffagdhlaaGreatDoor
open Go Go.RowKit
section
variable {α : Type} {rd : α → List Value} {S : Nat} {P : Program} {T E : TypeId} {bytes : Nat} {z : Value}
end
end Go.Proofs.YtjgpmnffagdhlaaGreatDoor
namespace Go.Proofs
open Go.Shelf
def Tryz.lays156_ren : Go.Shelf.Ren := ⟨fun | 156 => 47 | 165 => 72 | 166 => 73 | 169 => 55 | 240 => 106 | 241 => 107 | 276 => 156 | 277 => 157 | n => n, fun | 31 => 76 | 9 => 9 | 3 => 3 | 4 => 4 | 0 => 0 | 20 => 20 | 72 => 95 | 76 => 121 | 70 => 92 | 37 => 93 | 75 => 120 | 127 => 144 | 164 => 180 | 5 => 5 | 80 => 99 | n => n, fun | n => n⟩
theorem Tryz.lays156 : Go.Proofs.Lays.n156 Tryz.prog Tryz.lays156_ren := {
  mixed := by kernel_rfl
  f156 := Tryz.func47.trans (congrArg some (by kernel_rfl))
  f165 := Tryz.func72.trans (congrArg some (by kernel_rfl))
  f166 := Tryz.func73.trans (congrArg some (by kernel_rfl))
  f169 := Tryz.func55.trans (congrArg some (by kernel_rfl))
  f240 := Tryz.func106.trans (congrArg some (by kernel_rfl))
  f241 := Tryz.func107.trans (congrArg some (by kernel_rfl))
  f276 := Tryz.func156.trans (congrArg some (by kernel_rfl))
  f277 := Tryz.func157.trans (congrArg some (by kernel_rfl))
  t0 := Tryz.underlying0
  a0 := Tryz.isAgg0
  z0 := Tryz.sizeOf0
  v0 := Tryz.zeroValue0
  t3 := Tryz.underlying3
  a3 := Tryz.isAgg3
  z3 := Tryz.sizeOf3
  v3 := Tryz.zeroValue3
  t4 := Tryz.underlying4
  a4 := Tryz.isAgg4
  z4 := Tryz.sizeOf4
  v4 := Tryz.zeroValue4
  t9 := Tryz.underlying9
  a9 := Tryz.isAgg9
  z9 := Tryz.sizeOf9
  v9 := Tryz.zeroValue9
  t20 := Tryz.underlying20
  a20 := Tryz.isAgg20
  z20 := Tryz.sizeOf20
  v20 := Tryz.zeroValue20
  t31 := Tryz.underlying76
  a31 := Tryz.isAgg76
  z31 := Tryz.sizeOf76
  v31 := Tryz.zeroValue76
  t37 := Tryz.underlying93
  a37 := Tryz.isAgg93
  z37 := Tryz.sizeOf93
  v37 := Tryz.zeroValue93
  t70 := Tryz.underlying92
  a70 := Tryz.isAgg92
  z70 := Tryz.sizeOf92
  v70 := Tryz.zeroValue92
  t72 := Tryz.underlying95
  a72 := Tryz.isAgg95
  z72 := Tryz.sizeOf95
  v72 := Tryz.zeroValue95
  t75 := Tryz.underlying120
  a75 := Tryz.isAgg120
  z75 := Tryz.sizeOf120
  v75 := Tryz.zeroValue120
  t76 := Tryz.underlying121
  a76 := Tryz.isAgg121
  z76 := Tryz.sizeOf121
  v76 := Tryz.zeroValue121
  t127 := Tryz.underlying144
  a127 := Tryz.isAgg144
  z127 := Tryz.sizeOf144
  v127 := Tryz.zeroValue144
  t164 := Tryz.underlying180
  a164 := Tryz.isAgg180
  z164 := Tryz.sizeOf180
  v164 := Tryz.zeroValue180 }
theorem Tryz.Builder_Extra_156 : Builder.Extra Tryz.prog Tryz.lays156_ren := {
  sizeBuilder := by kernel_rfl
  liesBuilder := by kernel_rfl
  t5 := Tryz.underlying5
  a5 := Tryz.isAgg5
  z5 := Tryz.sizeOf5
  v5 := Tryz.zeroValue5
  infoByte := by kernel_rfl
  cellsByte := by kernel_rfl
  sizeByte := by kernel_rfl
  neB5 := by decide }
open Go.RowKit in
/-- strings.Join: "Join concatenates the elements of its first argument to create a single string. The separator string sep is placed between elements in the resulting string.": HOWEVER MANY ELEMENTS. Below the heap's end the world is as it was. (LAID: no walk: one application.) -/
theorem Tryz.strings_Join (bk o c : Nat) (xs : List ByteArray) (sep : ByteArray) (w : World) (hcells : ∀ (j : Nat) x, xs[j]? = some x → w.cell? ⟨bk, o + j, none⟩ = some (.string x)) (hbk : bk < w.heap.size) (hN : xs.length ≤ 140737488355328) (hcap : xs.length ≤ c) (hlen : (Lib.join (xs.map (·.data.toList)) sep.data.toList).length ≤ 140737488355328) :
    Calls Tryz.prog 47 #[.slice (some ⟨bk, o, none⟩) xs.length c, .string sep] w fun e w' => e = .returned (.string ⟨(Lib.join (xs.map (·.data.toList)) sep.data.toList).toArray⟩) ∧ Below w.heap.size w w' := Any.strings_Join Tryz.lays156 Tryz.Builder_Extra_156 bk o c xs sep w hcells hbk hN hcap hlen
def Tryz.lays137_ren : Go.Shelf.Ren := ⟨fun | 137 => 159 | 217 => 183 | 266 => 196 | n => n, fun | 9 => 9 | 5 => 5 | 3 => 3 | n => n, fun | n => n⟩
theorem Tryz.lays137 : Go.Proofs.Lays.n137 Tryz.prog Tryz.lays137_ren := {
  mixed := by kernel_rfl
  f137 := Tryz.func159.trans (congrArg some (by kernel_rfl))
  f217 := Tryz.func183.trans (congrArg some (by kernel_rfl))
  f266 := Tryz.func196.trans (congrArg some (by kernel_rfl))
  t3 := Tryz.underlying3
  a3 := Tryz.isAgg3
  z3 := Tryz.sizeOf3
  v3 := Tryz.zeroValue3
  t5 := Tryz.underlying5
  a5 := Tryz.isAgg5
  z5 := Tryz.sizeOf5
  v5 := Tryz.zeroValue5
  t9 := Tryz.underlying9
  a9 := Tryz.isAgg9
  z9 := Tryz.sizeOf9
  v9 := Tryz.zeroValue9 }
open Go.RowKit in
/-- strings.IndexByte: "IndexByte returns the index of the first instance of c in s, or -1 if c is not present in s.": IT RETURNS 'Lib.indexByte s c'; the world is as it was. (LAID: no walk: one application.) -/
theorem Tryz.strings_IndexByte (s : ByteArray) (c : Int) (w : World) :
    Calls Tryz.prog 159 #[.string s, .int .u8 c] w fun e w' => e = .returned (.int .i64 (Lib.indexByte s.data.toList c.toNat.toUInt8)) ∧ w' = w := Any.strings_IndexByte Tryz.lays137 s c w
def Tryz.lays103_ren : Go.Shelf.Ren := ⟨fun | 103 => 203 | 210 => 215 | 206 => 221 | n => n, fun | 9 => 9 | 4 => 4 | 24 => 209 | 3 => 3 | n => n, fun | n => n⟩
theorem Tryz.lays103 : Go.Proofs.Lays.n103 Tryz.prog Tryz.lays103_ren := {
  mixed := by kernel_rfl
  f103 := Tryz.func203.trans (congrArg some (by kernel_rfl))
  f206 := Tryz.func221.trans (congrArg some (by kernel_rfl))
  f210 := Tryz.func215.trans (congrArg some (by kernel_rfl))
  t3 := Tryz.underlying3
  a3 := Tryz.isAgg3
  z3 := Tryz.sizeOf3
  v3 := Tryz.zeroValue3
  t4 := Tryz.underlying4
  a4 := Tryz.isAgg4
  z4 := Tryz.sizeOf4
  v4 := Tryz.zeroValue4
  t9 := Tryz.underlying9
  a9 := Tryz.isAgg9
  z9 := Tryz.sizeOf9
  v9 := Tryz.zeroValue9
  t24 := Tryz.underlying209
  a24 := Tryz.isAgg209
  z24 := Tryz.sizeOf209
  v24 := Tryz.zeroValue209 }
open Go.RowKit in
/-- strings.CutPrefix: "CutPrefix returns s without the provided leading prefix string and reports whether it found the prefix. If s doesn't start with prefix, CutPrefix returns s, false. If prefix is the empty string, CutPrefix returns s, true.": IT RETURNS '(Lib.trimPrefix s p, Lib.hasPrefix s p)'; the world is as it was. (LAID: no walk: one application.) -/
theorem Tryz.strings_CutPrefix (s p : ByteArray) (w : World) :
    Calls Tryz.prog 203 #[.string s, .string p] w fun e w' => e = .returned (.tuple #[.string ⟨(Lib.trimPrefix s.data.toList p.data.toList).toArray⟩, .bool (Lib.hasPrefix s.data.toList p.data.toList)]) ∧ w' = w := Any.strings_CutPrefix Tryz.lays103 s p w
def Tryz.laysM171_ren : Go.Shelf.Ren := ⟨fun | 171 => 104 | 243 => 154 | 246 => 179 | 283 => 188 | 284 => 189 | 285 => 190 | 286 => 191 | 129 => 205 | 317 => 204 | 318 => 206 | 319 => 207 | 320 => 208 | 337 => 216 | 338 => 217 | n => n, fun | 3 => 3 | 9 => 9 | 2 => 2 | 4 => 4 | 171 => 198 | 0 => 0 | 53 => 89 | 37 => 93 | 5 => 5 | 173 => 201 | 212 => 213 | 51 => 214 | 20 => 20 | 213 => 215 | 46 => 216 | 232 => 236 | 233 => 237 | n => n, fun | 17 => 2 | 18 => 8 | 19 => 9 | n => n⟩
theorem Tryz.laysM171 : Go.Proofs.LaysM.n171 Tryz.prog Tryz.laysM171_ren := {
  mixed := by kernel_rfl
  f129 := Tryz.func205.trans (congrArg some (by kernel_rfl))
  f171 := Tryz.func104.trans (congrArg some (by kernel_rfl))
  f243 := Tryz.func154.trans (congrArg some (by kernel_rfl))
  f246 := Tryz.func179.trans (congrArg some (by kernel_rfl))
  f283 := Tryz.func188.trans (congrArg some (by kernel_rfl))
  f284 := Tryz.func189.trans (congrArg some (by kernel_rfl))
  f285 := Tryz.func190.trans (congrArg some (by kernel_rfl))
  f286 := Tryz.func191.trans (congrArg some (by kernel_rfl))
  f317 := Tryz.func204.trans (congrArg some (by kernel_rfl))
  f318 := Tryz.func206.trans (congrArg some (by kernel_rfl))
  f319 := Tryz.func207.trans (congrArg some (by kernel_rfl))
  f320 := Tryz.func208.trans (congrArg some (by kernel_rfl))
  f337 := Tryz.func216.trans (congrArg some (by kernel_rfl))
  f338 := Tryz.func217.trans (congrArg some (by kernel_rfl))
  t0 := Tryz.underlying0
  a0 := Tryz.isAgg0
  z0 := Tryz.sizeOf0
  v0 := Tryz.zeroValue0
  t2 := Tryz.underlying2
  a2 := Tryz.isAgg2
  z2 := Tryz.sizeOf2
  v2 := Tryz.zeroValue2
  t3 := Tryz.underlying3
  a3 := Tryz.isAgg3
  z3 := Tryz.sizeOf3
  v3 := Tryz.zeroValue3
  t4 := Tryz.underlying4
  a4 := Tryz.isAgg4
  z4 := Tryz.sizeOf4
  v4 := Tryz.zeroValue4
  t5 := Tryz.underlying5
  a5 := Tryz.isAgg5
  z5 := Tryz.sizeOf5
  v5 := Tryz.zeroValue5
  t9 := Tryz.underlying9
  a9 := Tryz.isAgg9
  z9 := Tryz.sizeOf9
  v9 := Tryz.zeroValue9
  t20 := Tryz.underlying20
  a20 := Tryz.isAgg20
  z20 := Tryz.sizeOf20
  v20 := Tryz.zeroValue20
  t37 := Tryz.underlying93
  a37 := Tryz.isAgg93
  z37 := Tryz.sizeOf93
  v37 := Tryz.zeroValue93
  t46 := Tryz.underlying216
  a46 := Tryz.isAgg216
  z46 := Tryz.sizeOf216
  v46 := Tryz.zeroValue216
  t51 := Tryz.underlying214
  a51 := Tryz.isAgg214
  z51 := Tryz.sizeOf214
  v51 := Tryz.zeroValue214
  t53 := Tryz.underlying89
  a53 := Tryz.isAgg89
  z53 := Tryz.sizeOf89
  v53 := Tryz.zeroValue89
  t171 := Tryz.underlying198
  a171 := Tryz.isAgg198
  z171 := Tryz.sizeOf198
  v171 := Tryz.zeroValue198
  t173 := Tryz.underlying201
  a173 := Tryz.isAgg201
  z173 := Tryz.sizeOf201
  v173 := Tryz.zeroValue201
  t212 := Tryz.underlying213
  a212 := Tryz.isAgg213
  z212 := Tryz.sizeOf213
  v212 := Tryz.zeroValue213
  t213 := Tryz.underlying215
  a213 := Tryz.isAgg215
  z213 := Tryz.sizeOf215
  t232 := Tryz.underlying236
  a232 := Tryz.isAgg236
  z232 := Tryz.sizeOf236
  v232 := Tryz.zeroValue236
  t233 := Tryz.underlying237
  a233 := Tryz.isAgg237
  z233 := Tryz.sizeOf237
  v233 := Tryz.zeroValue237
  g17 := by kernel_rfl
  g18 := by kernel_rfl
  g19 := by kernel_rfl
  i0 := by kernel_rfl
  i2 := by kernel_rfl
  i3 := by kernel_rfl
  i4 := by kernel_rfl
  i5 := by kernel_rfl
  i9 := by kernel_rfl
  i20 := by kernel_rfl
  i37 := by kernel_rfl
  i46 := by kernel_rfl
  i51 := by kernel_rfl
  i53 := by kernel_rfl
  i171 := by kernel_rfl
  i173 := by kernel_rfl
  i212 := by kernel_rfl
  i232 := by kernel_rfl
  i233 := by kernel_rfl
  m17 := by kernel_rfl
  m18 := by kernel_rfl
  m19 := by kernel_rfl }
open Go.RowKit Go.Sort Go.Lib in
/-- strconv.Itoa: "Itoa is equivalent to FormatInt(int64(i), 10).": i's DECIMAL NUMERAL ('Lib.itoa': a '-' where i is negative, then the digits), FOR EVERY int. The world behind the call: the world before it, new blocks behind the heap (the library's 'var a [24]byte'), draws. (LAID: no walk: one application.) -/
theorem Tryz.strconv_Itoa (n : Int) (h0 : -9223372036854775808 ≤ n) (h1 : n ≤ 9223372036854775807) (w : World) (htab : Lib.TabIs Tryz.prog w "internal/strconv.uint64pow10" .u64 Lib.pow10Tab) :
    Calls Tryz.prog 104 #[.int .i64 n] w fun e w' => e = .returned (.string ⟨(Lib.itoa n).toArray⟩) ∧ ∃ k os, w' = grow (w.drewN k) os := Any.strconv_Itoa Tryz.laysM171 n h0 h1 w htab
def Tryz.laysC172_ren : Go.Shelf.Ren := ⟨fun | 172 => 160 | 244 => 184 | 245 => 185 | 247 => 197 | 279 => 198 | 280 => 199 | 281 => 200 | 282 => 201 | 287 => 212 | 316 => 213 | 171 => 104 | 205 => 214 | 321 => 219 | 322 => 220 | 243 => 154 | 246 => 179 | 283 => 188 | 284 => 189 | 285 => 190 | 286 => 191 | 129 => 205 | 317 => 204 | 318 => 206 | 319 => 207 | 320 => 208 | 337 => 216 | 338 => 217 | n => n, fun | 9 => 9 | 3 => 3 | 75 => 120 | 76 => 121 | 4 => 4 | 5 => 5 | 167 => 203 | 37 => 93 | 0 => 0 | 85 => 204 | 2 => 2 | 168 => 206 | 53 => 89 | 175 => 222 | 46 => 216 | 210 => 226 | 127 => 144 | 145 => 235 | 143 => 233 | 21 => 21 | 171 => 198 | 173 => 201 | 212 => 213 | 51 => 214 | 20 => 20 | 213 => 215 | 232 => 236 | 233 => 237 | 80 => 99 | n => n, fun | 15 => 5 | 16 => 6 | 17 => 2 | 18 => 8 | 19 => 9 | n => n⟩
theorem Tryz.laysC172 : Go.Proofs.LaysC.n172 Tryz.prog Tryz.laysC172_ren := {
  mixed := by kernel_rfl
  f129 := Tryz.func205.trans (congrArg some (by kernel_rfl))
  f171 := Tryz.func104.trans (congrArg some (by kernel_rfl))
  f172 := Tryz.func160.trans (congrArg some (by kernel_rfl))
  f205 := Tryz.func214.trans (congrArg some (by kernel_rfl))
  f243 := Tryz.func154.trans (congrArg some (by kernel_rfl))
  f244 := Tryz.func184.trans (congrArg some (by kernel_rfl))
  f245 := Tryz.func185.trans (congrArg some (by kernel_rfl))
  f246 := Tryz.func179.trans (congrArg some (by kernel_rfl))
  f247 := Tryz.func197.trans (congrArg some (by kernel_rfl))
  f279 := Tryz.func198.trans (congrArg some (by kernel_rfl))
  f280 := Tryz.func199.trans (congrArg some (by kernel_rfl))
  f281 := Tryz.func200.trans (congrArg some (by kernel_rfl))
  f282 := Tryz.func201.trans (congrArg some (by kernel_rfl))
  f283 := Tryz.func188.trans (congrArg some (by kernel_rfl))
  f284 := Tryz.func189.trans (congrArg some (by kernel_rfl))
  f285 := Tryz.func190.trans (congrArg some (by kernel_rfl))
  f286 := Tryz.func191.trans (congrArg some (by kernel_rfl))
  f287 := Tryz.func212.trans (congrArg some (by kernel_rfl))
  f316 := Tryz.func213.trans (congrArg some (by kernel_rfl))
  f317 := Tryz.func204.trans (congrArg some (by kernel_rfl))
  f318 := Tryz.func206.trans (congrArg some (by kernel_rfl))
  f319 := Tryz.func207.trans (congrArg some (by kernel_rfl))
  f320 := Tryz.func208.trans (congrArg some (by kernel_rfl))
  f321 := Tryz.func219.trans (congrArg some (by kernel_rfl))
  f322 := Tryz.func220.trans (congrArg some (by kernel_rfl))
  f337 := Tryz.func216.trans (congrArg some (by kernel_rfl))
  f338 := Tryz.func217.trans (congrArg some (by kernel_rfl))
  t0 := Tryz.underlying0
  a0 := Tryz.isAgg0
  z0 := Tryz.sizeOf0
  v0 := Tryz.zeroValue0
  t2 := Tryz.underlying2
  a2 := Tryz.isAgg2
  z2 := Tryz.sizeOf2
  v2 := Tryz.zeroValue2
  t3 := Tryz.underlying3
  a3 := Tryz.isAgg3
  z3 := Tryz.sizeOf3
  v3 := Tryz.zeroValue3
  t4 := Tryz.underlying4
  a4 := Tryz.isAgg4
  z4 := Tryz.sizeOf4
  v4 := Tryz.zeroValue4
  t5 := Tryz.underlying5
  a5 := Tryz.isAgg5
  z5 := Tryz.sizeOf5
  v5 := Tryz.zeroValue5
  t9 := Tryz.underlying9
  a9 := Tryz.isAgg9
  z9 := Tryz.sizeOf9
  v9 := Tryz.zeroValue9
  t20 := Tryz.underlying20
  a20 := Tryz.isAgg20
  z20 := Tryz.sizeOf20
  v20 := Tryz.zeroValue20
  t21 := Tryz.underlying21
  a21 := Tryz.isAgg21
  z21 := Tryz.sizeOf21
  v21 := Tryz.zeroValue21
  t37 := Tryz.underlying93
  a37 := Tryz.isAgg93
  z37 := Tryz.sizeOf93
  v37 := Tryz.zeroValue93
  t46 := Tryz.underlying216
  a46 := Tryz.isAgg216
  z46 := Tryz.sizeOf216
  v46 := Tryz.zeroValue216
  t51 := Tryz.underlying214
  a51 := Tryz.isAgg214
  z51 := Tryz.sizeOf214
  v51 := Tryz.zeroValue214
  t53 := Tryz.underlying89
  a53 := Tryz.isAgg89
  z53 := Tryz.sizeOf89
  v53 := Tryz.zeroValue89
  t75 := Tryz.underlying120
  a75 := Tryz.isAgg120
  z75 := Tryz.sizeOf120
  v75 := Tryz.zeroValue120
  t76 := Tryz.underlying121
  a76 := Tryz.isAgg121
  z76 := Tryz.sizeOf121
  v76 := Tryz.zeroValue121
  t85 := Tryz.underlying204
  a85 := Tryz.isAgg204
  z85 := Tryz.sizeOf204
  v85 := Tryz.zeroValue204
  t127 := Tryz.underlying144
  a127 := Tryz.isAgg144
  z127 := Tryz.sizeOf144
  v127 := Tryz.zeroValue144
  t143 := Tryz.underlying233
  a143 := Tryz.isAgg233
  z143 := Tryz.sizeOf233
  v143 := Tryz.zeroValue233
  t145 := Tryz.underlying235
  a145 := Tryz.isAgg235
  z145 := Tryz.sizeOf235
  v145 := Tryz.zeroValue235
  t167 := Tryz.underlying203
  a167 := Tryz.isAgg203
  z167 := Tryz.sizeOf203
  v167 := Tryz.zeroValue203
  t168 := Tryz.underlying206
  a168 := Tryz.isAgg206
  z168 := Tryz.sizeOf206
  v168 := Tryz.zeroValue206
  t171 := Tryz.underlying198
  a171 := Tryz.isAgg198
  z171 := Tryz.sizeOf198
  v171 := Tryz.zeroValue198
  t173 := Tryz.underlying201
  a173 := Tryz.isAgg201
  z173 := Tryz.sizeOf201
  v173 := Tryz.zeroValue201
  t175 := Tryz.underlying222
  a175 := Tryz.isAgg222
  z175 := Tryz.sizeOf222
  v175 := Tryz.zeroValue222
  t210 := Tryz.underlying226
  a210 := Tryz.isAgg226
  z210 := Tryz.sizeOf226
  v210 := Tryz.zeroValue226
  t212 := Tryz.underlying213
  a212 := Tryz.isAgg213
  z212 := Tryz.sizeOf213
  v212 := Tryz.zeroValue213
  t213 := Tryz.underlying215
  a213 := Tryz.isAgg215
  z213 := Tryz.sizeOf215
  t232 := Tryz.underlying236
  a232 := Tryz.isAgg236
  z232 := Tryz.sizeOf236
  v232 := Tryz.zeroValue236
  t233 := Tryz.underlying237
  a233 := Tryz.isAgg237
  z233 := Tryz.sizeOf237
  v233 := Tryz.zeroValue237
  g15 := by kernel_rfl
  g16 := by kernel_rfl
  g17 := by kernel_rfl
  g18 := by kernel_rfl
  g19 := by kernel_rfl
  t80 := Tryz.underlying99
  a80 := Tryz.isAgg99
  z80 := Tryz.sizeOf99
  v80 := Tryz.zeroValue99
  i0 := by kernel_rfl
  i2 := by kernel_rfl
  i3 := by kernel_rfl
  i4 := by kernel_rfl
  i5 := by kernel_rfl
  i9 := by kernel_rfl
  i20 := by kernel_rfl
  i21 := by kernel_rfl
  i37 := by kernel_rfl
  i46 := by kernel_rfl
  i51 := by kernel_rfl
  i53 := by kernel_rfl
  i75 := by kernel_rfl
  i76 := by kernel_rfl
  i80 := by kernel_rfl
  i85 := by kernel_rfl
  i127 := by kernel_rfl
  i143 := by kernel_rfl
  i145 := by kernel_rfl
  i167 := by kernel_rfl
  i168 := by kernel_rfl
  i171 := by kernel_rfl
  i173 := by kernel_rfl
  i175 := by kernel_rfl
  i210 := by kernel_rfl
  i212 := by kernel_rfl
  i232 := by kernel_rfl
  i233 := by kernel_rfl
  m15 := by kernel_rfl
  m16 := by kernel_rfl
  m17 := by kernel_rfl
  m18 := by kernel_rfl
  m19 := by kernel_rfl
  c0 := by kernel_rfl
  c2 := by kernel_rfl
  c3 := by kernel_rfl
  c4 := by kernel_rfl
  c5 := by kernel_rfl
  c9 := by kernel_rfl
  c20 := by kernel_rfl
  c21 := by kernel_rfl
  c37 := by kernel_rfl
  c46 := by kernel_rfl
  c51 := by kernel_rfl
  c53 := by kernel_rfl
  c75 := by kernel_rfl
  c76 := by kernel_rfl
  c80 := by kernel_rfl
  c85 := by kernel_rfl
  c127 := by kernel_rfl
  c143 := by kernel_rfl
  c145 := by kernel_rfl
  c167 := by kernel_rfl
  c168 := by kernel_rfl
  c171 := by kernel_rfl
  c173 := by kernel_rfl
  c175 := by kernel_rfl
  c210 := by kernel_rfl
  c212 := by kernel_rfl
  c213 := by kernel_rfl
  c232 := by kernel_rfl
  c233 := by kernel_rfl }
open Go.RowKit in
/-- strconv.Atoi, AT EVERY STRING THAT SPELLS AN int ('Lib.atoiAll .. = .ok v'; of whatever length: leading zeros count): v, AND NO ERROR. The world: as it was, or with the one new row that '[]byte(..)' lays. (LAID: no walk: one application.) -/
theorem Tryz.strconv_Atoi_ok (s : ByteArray) (hmax : s.size ≤ 9223372036854775806) (v : Int) (h : Lib.atoiAll s.data.toList = .ok v) (w : World) :
    Calls Tryz.prog 160 #[.string s] w fun e w' => e = .returned (.tuple #[.int .i64 v, .nilIface]) ∧ (w' = w ∨ ∃ t, w' = Lib.bytesWorld w 5 t) := Any.strconv_Atoi_ok Tryz.laysC172 s hmax v h w
open Go.RowKit in
theorem Tryz.strconv_Atoi_syntax_var (s : ByteArray) (hlim : s.size ≤ 281474976710656) (h : Lib.atoiAll s.data.toList = .«syntax») (tp : TypeId) (p : Value) (w : World) (hvar : w.var? Tryz.prog "strconv.ErrSyntax" = some #[.iface tp p]) :
    Calls Tryz.prog 160 #[.string s] w fun e w' => ∃ N, e = .returned (.tuple #[.int .i64 0, .iface 206 (.pointer (some ⟨N, 0, none⟩))]) ∧ w.heap.size ≤ N ∧ w'.heap[N]? = some (.cells #[.string ⟨#[65, 116, 111, 105]⟩, .string s, .iface tp p] 226 (0, 0)) ∧ Below w.heap.size w w' := Any.strconv_Atoi_syntax_var Tryz.laysC172 s hlim h tp p w hvar
open Go.RowKit in
theorem Tryz.strconv_Atoi_range_var (s : ByteArray) (hlim : s.size ≤ 281474976710656) (h : Lib.atoiAll s.data.toList = .range) (tp : TypeId) (p : Value) (w : World) (hvar : w.var? Tryz.prog "strconv.ErrRange" = some #[.iface tp p]) :
    Calls Tryz.prog 160 #[.string s] w fun e w' => ∃ N, e = .returned (.tuple #[.int .i64 (Lib.atoiSat s.data.toList), .iface 206 (.pointer (some ⟨N, 0, none⟩))]) ∧ w.heap.size ≤ N ∧ w'.heap[N]? = some (.cells #[.string ⟨#[65, 116, 111, 105]⟩, .string s, .iface tp p] 226 (0, 0)) ∧ Below w.heap.size w w' := Any.strconv_Atoi_range_var Tryz.laysC172 s hlim h tp p w hvar
def Tryz.lays144_ren : Go.Shelf.Ren := ⟨fun | 144 => 161 | 143 => 181 | 219 => 194 | 217 => 183 | 225 => 209 | 224 => 210 | 267 => 211 | 266 => 196 | 314 => 218 | n => n, fun | 9 => 9 | 4 => 4 | 3 => 3 | 5 => 5 | 46 => 216 | 146 => 230 | 51 => 214 | n => n, fun | 1 => 1 | n => n⟩
theorem Tryz.lays144 : Go.Proofs.Lays.n144 Tryz.prog Tryz.lays144_ren := {
  mixed := by kernel_rfl
  f143 := Tryz.func181.trans (congrArg some (by kernel_rfl))
  f144 := Tryz.func161.trans (congrArg some (by kernel_rfl))
  f217 := Tryz.func183.trans (congrArg some (by kernel_rfl))
  f219 := Tryz.func194.trans (congrArg some (by kernel_rfl))
  f224 := Tryz.func210.trans (congrArg some (by kernel_rfl))
  f225 := Tryz.func209.trans (congrArg some (by kernel_rfl))
  f266 := Tryz.func196.trans (congrArg some (by kernel_rfl))
  f267 := Tryz.func211.trans (congrArg some (by kernel_rfl))
  f314 := Tryz.func218.trans (congrArg some (by kernel_rfl))
  t3 := Tryz.underlying3
  a3 := Tryz.isAgg3
  z3 := Tryz.sizeOf3
  v3 := Tryz.zeroValue3
  t4 := Tryz.underlying4
  a4 := Tryz.isAgg4
  z4 := Tryz.sizeOf4
  v4 := Tryz.zeroValue4
  t5 := Tryz.underlying5
  a5 := Tryz.isAgg5
  z5 := Tryz.sizeOf5
  v5 := Tryz.zeroValue5
  t9 := Tryz.underlying9
  a9 := Tryz.isAgg9
  z9 := Tryz.sizeOf9
  v9 := Tryz.zeroValue9
  t46 := Tryz.underlying216
  a46 := Tryz.isAgg216
  z46 := Tryz.sizeOf216
  v46 := Tryz.zeroValue216
  t51 := Tryz.underlying214
  a51 := Tryz.isAgg214
  z51 := Tryz.sizeOf214
  v51 := Tryz.zeroValue214
  t146 := Tryz.underlying230
  a146 := Tryz.isAgg230
  z146 := Tryz.sizeOf230
  v146 := Tryz.zeroValue230
  g1 := by kernel_rfl }
open Go.RowKit Go.Lib in
/-- strings.Contains: "Contains reports whether substr is within s.": AT A substr OF ONE BYTE c: IT RETURNS 'decide (0 ≤ Lib.indexByte s c)'; the world is as it was. (LAID: no walk: one application.) -/
theorem Tryz.strings_Contains_one (s : ByteArray) (c : UInt8) (w : World) :
    Calls Tryz.prog 161 #[.string s, .string ⟨#[c]⟩] w fun e w' => e = .returned (.bool (decide (0 ≤ Lib.indexByte s.data.toList c))) ∧ w' = w := Any.strings_Contains_one Tryz.lays144 s c w
def Tryz.lays155_ren : Go.Shelf.Ren := ⟨fun | 155 => 105 | 154 => 155 | 138 => 180 | 165 => 72 | 143 => 181 | 166 => 73 | 197 => 182 | 169 => 55 | 195 => 192 | 218 => 193 | 240 => 106 | 241 => 107 | 219 => 194 | 260 => 195 | 276 => 156 | 277 => 157 | 217 => 183 | 225 => 209 | 224 => 210 | 267 => 211 | 266 => 196 | 314 => 218 | n => n, fun | 9 => 9 | 3 => 3 | 4 => 4 | 72 => 95 | 0 => 0 | 76 => 121 | 105 => 193 | 21 => 21 | 5 => 5 | 70 => 92 | 20 => 20 | 37 => 93 | 75 => 120 | 127 => 144 | 164 => 180 | 46 => 216 | 119 => 218 | 139 => 221 | 138 => 220 | 146 => 230 | 51 => 214 | 80 => 99 | n => n, fun | 1 => 1 | 3 => 3 | 4 => 4 | n => n⟩
theorem Tryz.lays155 : Go.Proofs.Lays.n155 Tryz.prog Tryz.lays155_ren := {
  mixed := by kernel_rfl
  f138 := Tryz.func180.trans (congrArg some (by kernel_rfl))
  f143 := Tryz.func181.trans (congrArg some (by kernel_rfl))
  f154 := Tryz.func155.trans (congrArg some (by kernel_rfl))
  f155 := Tryz.func105.trans (congrArg some (by kernel_rfl))
  f165 := Tryz.func72.trans (congrArg some (by kernel_rfl))
  f166 := Tryz.func73.trans (congrArg some (by kernel_rfl))
  f169 := Tryz.func55.trans (congrArg some (by kernel_rfl))
  f195 := Tryz.func192.trans (congrArg some (by kernel_rfl))
  f197 := Tryz.func182.trans (congrArg some (by kernel_rfl))
  f217 := Tryz.func183.trans (congrArg some (by kernel_rfl))
  f218 := Tryz.func193.trans (congrArg some (by kernel_rfl))
  f219 := Tryz.func194.trans (congrArg some (by kernel_rfl))
  f224 := Tryz.func210.trans (congrArg some (by kernel_rfl))
  f225 := Tryz.func209.trans (congrArg some (by kernel_rfl))
  f240 := Tryz.func106.trans (congrArg some (by kernel_rfl))
  f241 := Tryz.func107.trans (congrArg some (by kernel_rfl))
  f260 := Tryz.func195.trans (congrArg some (by kernel_rfl))
  f266 := Tryz.func196.trans (congrArg some (by kernel_rfl))
  f267 := Tryz.func211.trans (congrArg some (by kernel_rfl))
  f276 := Tryz.func156.trans (congrArg some (by kernel_rfl))
  f277 := Tryz.func157.trans (congrArg some (by kernel_rfl))
  f314 := Tryz.func218.trans (congrArg some (by kernel_rfl))
  t0 := Tryz.underlying0
  a0 := Tryz.isAgg0
  z0 := Tryz.sizeOf0
  v0 := Tryz.zeroValue0
  t3 := Tryz.underlying3
  a3 := Tryz.isAgg3
  z3 := Tryz.sizeOf3
  v3 := Tryz.zeroValue3
  t4 := Tryz.underlying4
  a4 := Tryz.isAgg4
  z4 := Tryz.sizeOf4
  v4 := Tryz.zeroValue4
  t5 := Tryz.underlying5
  a5 := Tryz.isAgg5
  z5 := Tryz.sizeOf5
  v5 := Tryz.zeroValue5
  t9 := Tryz.underlying9
  a9 := Tryz.isAgg9
  z9 := Tryz.sizeOf9
  v9 := Tryz.zeroValue9
  t20 := Tryz.underlying20
  a20 := Tryz.isAgg20
  z20 := Tryz.sizeOf20
  v20 := Tryz.zeroValue20
  t21 := Tryz.underlying21
  a21 := Tryz.isAgg21
  z21 := Tryz.sizeOf21
  v21 := Tryz.zeroValue21
  t37 := Tryz.underlying93
  a37 := Tryz.isAgg93
  z37 := Tryz.sizeOf93
  v37 := Tryz.zeroValue93
  t46 := Tryz.underlying216
  a46 := Tryz.isAgg216
  z46 := Tryz.sizeOf216
  v46 := Tryz.zeroValue216
  t51 := Tryz.underlying214
  a51 := Tryz.isAgg214
  z51 := Tryz.sizeOf214
  v51 := Tryz.zeroValue214
  t70 := Tryz.underlying92
  a70 := Tryz.isAgg92
  z70 := Tryz.sizeOf92
  v70 := Tryz.zeroValue92
  t72 := Tryz.underlying95
  a72 := Tryz.isAgg95
  z72 := Tryz.sizeOf95
  v72 := Tryz.zeroValue95
  t75 := Tryz.underlying120
  a75 := Tryz.isAgg120
  z75 := Tryz.sizeOf120
  v75 := Tryz.zeroValue120
  t76 := Tryz.underlying121
  a76 := Tryz.isAgg121
  z76 := Tryz.sizeOf121
  v76 := Tryz.zeroValue121
  t105 := Tryz.underlying193
  a105 := Tryz.isAgg193
  z105 := Tryz.sizeOf193
  v105 := Tryz.zeroValue193
  t119 := Tryz.underlying218
  a119 := Tryz.isAgg218
  z119 := Tryz.sizeOf218
  t127 := Tryz.underlying144
  a127 := Tryz.isAgg144
  z127 := Tryz.sizeOf144
  v127 := Tryz.zeroValue144
  t138 := Tryz.underlying220
  a138 := Tryz.isAgg220
  z138 := Tryz.sizeOf220
  v138 := Tryz.zeroValue220
  t139 := Tryz.underlying221
  a139 := Tryz.isAgg221
  z139 := Tryz.sizeOf221
  v139 := Tryz.zeroValue221
  t146 := Tryz.underlying230
  a146 := Tryz.isAgg230
  z146 := Tryz.sizeOf230
  v146 := Tryz.zeroValue230
  t164 := Tryz.underlying180
  a164 := Tryz.isAgg180
  z164 := Tryz.sizeOf180
  v164 := Tryz.zeroValue180
  g1 := by kernel_rfl
  g3 := by kernel_rfl
  g4 := by kernel_rfl }
theorem Tryz.Builder_Extra_155 : Builder.Extra Tryz.prog Tryz.lays155_ren := {
  sizeBuilder := by kernel_rfl
  liesBuilder := by kernel_rfl
  t5 := Tryz.underlying5
  a5 := Tryz.isAgg5
  z5 := Tryz.sizeOf5
  v5 := Tryz.zeroValue5
  infoByte := by kernel_rfl
  cellsByte := by kernel_rfl
  sizeByte := by kernel_rfl
  neB5 := by decide }
open Go.RowKit Go.Lib in
/-- strings.ReplaceAll: "ReplaceAll returns a copy of the string s with all non-overlapping instances of old replaced by new.": AT AN old THAT IS NOT EMPTY: 'Lib.replaceAll s old new'. (LAID: no walk: one application.) -/
theorem Tryz.strings_ReplaceAll (s old new : ByteArray) (m : Int) (w : World) (hs : s.size < 4294967281) (hm : w.cell? ⟨1, 0, none⟩ = some (.int .i64 m)) (h1 : 1 ≤ old.size) (hlen : s.size + Lib.countB s old * new.size ≤ 140737488355328) :
    Calls Tryz.prog 105 #[.string s, .string old, .string new] w fun e w' =>
      e = .returned (.string ⟨(Lib.replaceAll s.data.toList old.data.toList new.data.toList).toArray⟩) ∧ Below w.heap.size w w' := Any.strings_ReplaceAll Tryz.lays155 Tryz.Builder_Extra_155 s old new m w hs hm h1 hlen
def Tryz.laysM155_ren : Go.Shelf.Ren := ⟨fun | 155 => 105 | 154 => 155 | 138 => 180 | 165 => 72 | 143 => 181 | 166 => 73 | 197 => 182 | 169 => 55 | 195 => 192 | 218 => 193 | 240 => 106 | 241 => 107 | 219 => 194 | 260 => 195 | 276 => 156 | 277 => 157 | 217 => 183 | 225 => 209 | 224 => 210 | 267 => 211 | 266 => 196 | 314 => 218 | n => n, fun | 9 => 9 | 3 => 3 | 4 => 4 | 72 => 95 | 0 => 0 | 76 => 121 | 105 => 193 | 21 => 21 | 5 => 5 | 70 => 92 | 20 => 20 | 37 => 93 | 75 => 120 | 127 => 144 | 164 => 180 | 46 => 216 | 119 => 218 | 139 => 221 | 138 => 220 | 146 => 230 | 51 => 214 | 80 => 99 | n => n, fun | 1 => 1 | 3 => 3 | 4 => 4 | n => n⟩
theorem Tryz.laysM155 : Go.Proofs.LaysM.n155 Tryz.prog Tryz.laysM155_ren := {
  mixed := by kernel_rfl
  f138 := Tryz.func180.trans (congrArg some (by kernel_rfl))
  f143 := Tryz.func181.trans (congrArg some (by kernel_rfl))
  f154 := Tryz.func155.trans (congrArg some (by kernel_rfl))
  f155 := Tryz.func105.trans (congrArg some (by kernel_rfl))
  f165 := Tryz.func72.trans (congrArg some (by kernel_rfl))
  f166 := Tryz.func73.trans (congrArg some (by kernel_rfl))
  f169 := Tryz.func55.trans (congrArg some (by kernel_rfl))
  f195 := Tryz.func192.trans (congrArg some (by kernel_rfl))
  f197 := Tryz.func182.trans (congrArg some (by kernel_rfl))
  f217 := Tryz.func183.trans (congrArg some (by kernel_rfl))
  f218 := Tryz.func193.trans (congrArg some (by kernel_rfl))
  f219 := Tryz.func194.trans (congrArg some (by kernel_rfl))
  f224 := Tryz.func210.trans (congrArg some (by kernel_rfl))
  f225 := Tryz.func209.trans (congrArg some (by kernel_rfl))
  f240 := Tryz.func106.trans (congrArg some (by kernel_rfl))
  f241 := Tryz.func107.trans (congrArg some (by kernel_rfl))
  f260 := Tryz.func195.trans (congrArg some (by kernel_rfl))
  f266 := Tryz.func196.trans (congrArg some (by kernel_rfl))
  f267 := Tryz.func211.trans (congrArg some (by kernel_rfl))
  f276 := Tryz.func156.trans (congrArg some (by kernel_rfl))
  f277 := Tryz.func157.trans (congrArg some (by kernel_rfl))
  f314 := Tryz.func218.trans (congrArg some (by kernel_rfl))
  t0 := Tryz.underlying0
  a0 := Tryz.isAgg0
  z0 := Tryz.sizeOf0
  v0 := Tryz.zeroValue0
  t3 := Tryz.underlying3
  a3 := Tryz.isAgg3
  z3 := Tryz.sizeOf3
  v3 := Tryz.zeroValue3
  t4 := Tryz.underlying4
  a4 := Tryz.isAgg4
  z4 := Tryz.sizeOf4
  v4 := Tryz.zeroValue4
  t5 := Tryz.underlying5
  a5 := Tryz.isAgg5
  z5 := Tryz.sizeOf5
  v5 := Tryz.zeroValue5
  t9 := Tryz.underlying9
  a9 := Tryz.isAgg9
  z9 := Tryz.sizeOf9
  v9 := Tryz.zeroValue9
  t20 := Tryz.underlying20
  a20 := Tryz.isAgg20
  z20 := Tryz.sizeOf20
  v20 := Tryz.zeroValue20
  t21 := Tryz.underlying21
  a21 := Tryz.isAgg21
  z21 := Tryz.sizeOf21
  v21 := Tryz.zeroValue21
  t37 := Tryz.underlying93
  a37 := Tryz.isAgg93
  z37 := Tryz.sizeOf93
  v37 := Tryz.zeroValue93
  t46 := Tryz.underlying216
  a46 := Tryz.isAgg216
  z46 := Tryz.sizeOf216
  v46 := Tryz.zeroValue216
  t51 := Tryz.underlying214
  a51 := Tryz.isAgg214
  z51 := Tryz.sizeOf214
  v51 := Tryz.zeroValue214
  t70 := Tryz.underlying92
  a70 := Tryz.isAgg92
  z70 := Tryz.sizeOf92
  v70 := Tryz.zeroValue92
  t72 := Tryz.underlying95
  a72 := Tryz.isAgg95
  z72 := Tryz.sizeOf95
  v72 := Tryz.zeroValue95
  t75 := Tryz.underlying120
  a75 := Tryz.isAgg120
  z75 := Tryz.sizeOf120
  v75 := Tryz.zeroValue120
  t76 := Tryz.underlying121
  a76 := Tryz.isAgg121
  z76 := Tryz.sizeOf121
  v76 := Tryz.zeroValue121
  t105 := Tryz.underlying193
  a105 := Tryz.isAgg193
  z105 := Tryz.sizeOf193
  v105 := Tryz.zeroValue193
  t119 := Tryz.underlying218
  a119 := Tryz.isAgg218
  z119 := Tryz.sizeOf218
  t127 := Tryz.underlying144
  a127 := Tryz.isAgg144
  z127 := Tryz.sizeOf144
  v127 := Tryz.zeroValue144
  t138 := Tryz.underlying220
  a138 := Tryz.isAgg220
  z138 := Tryz.sizeOf220
  v138 := Tryz.zeroValue220
  t139 := Tryz.underlying221
  a139 := Tryz.isAgg221
  z139 := Tryz.sizeOf221
  v139 := Tryz.zeroValue221
  t146 := Tryz.underlying230
  a146 := Tryz.isAgg230
  z146 := Tryz.sizeOf230
  v146 := Tryz.zeroValue230
  t164 := Tryz.underlying180
  a164 := Tryz.isAgg180
  z164 := Tryz.sizeOf180
  v164 := Tryz.zeroValue180
  g1 := by kernel_rfl
  g3 := by kernel_rfl
  g4 := by kernel_rfl
  t80 := Tryz.underlying99
  a80 := Tryz.isAgg99
  z80 := Tryz.sizeOf99
  v80 := Tryz.zeroValue99
  i0 := by kernel_rfl
  i3 := by kernel_rfl
  i4 := by kernel_rfl
  i5 := by kernel_rfl
  i9 := by kernel_rfl
  i20 := by kernel_rfl
  i21 := by kernel_rfl
  i37 := by kernel_rfl
  i46 := by kernel_rfl
  i51 := by kernel_rfl
  i70 := by kernel_rfl
  i72 := by kernel_rfl
  i75 := by kernel_rfl
  i76 := by kernel_rfl
  i80 := by kernel_rfl
  i105 := by kernel_rfl
  i127 := by kernel_rfl
  i138 := by kernel_rfl
  i139 := by kernel_rfl
  i146 := by kernel_rfl
  i164 := by kernel_rfl
  m1 := by kernel_rfl
  s1_3 := fun w h => Go.Proofs.cell_of_shapedOpen_int (zero := #[.int .i64 0]) (t := 3) h (of_decide_eq_true (by kernel_rfl)) (by kernel_rfl) rfl (by kernel_rfl) (by kernel_rfl) Tryz.underlying3
  m3 := by kernel_rfl
  m4 := by kernel_rfl }
def Tryz.lays107_ren : Go.Shelf.Ren := ⟨fun | 107 => 108 | 108 => 158 | n => n, fun | 28 => 29 | 3 => 3 | 4 => 4 | 0 => 0 | n => n, fun | n => n⟩
theorem Tryz.lays107 : Go.Proofs.Lays.n107 Tryz.prog Tryz.lays107_ren := {
  mixed := by kernel_rfl
  f107 := Tryz.func108.trans (congrArg some (by kernel_rfl))
  f108 := Tryz.func158.trans (congrArg some (by kernel_rfl))
  t0 := Tryz.underlying0
  a0 := Tryz.isAgg0
  z0 := Tryz.sizeOf0
  v0 := Tryz.zeroValue0
  t3 := Tryz.underlying3
  a3 := Tryz.isAgg3
  z3 := Tryz.sizeOf3
  v3 := Tryz.zeroValue3
  t4 := Tryz.underlying4
  a4 := Tryz.isAgg4
  z4 := Tryz.sizeOf4
  v4 := Tryz.zeroValue4
  t28 := Tryz.underlying29
  a28 := Tryz.isAgg29
  z28 := Tryz.sizeOf29
  v28 := Tryz.zeroValue29 }
open Go.Lib in
/-- slices.Contains at []int: "Contains reports whether v is present in s.": IT RETURNS 'elements.contains v'; the world is as it was. ITS CALLEE slices.Index IS MET BY ITS OWN CONTRACT OFF THE SHELF (lay that first): no loop is walked here. (LAID: no walk: one application.) -/
theorem Tryz.slices_Contains_int (b off n c : Nat) (zs : List Int) (x : Int) (w : World) (hz : n ≤ zs.length) (hbig : n ≤ 9223372036854775807) (hc : ∀ j, j < zs.length → w.cell? ⟨b, off + j, none⟩ = some (.int .i64 (zs.getD j 0))) :
    Calls Tryz.prog 108 #[.slice (some ⟨b, off, none⟩) n c, .int .i64 x] w fun e w' => e = .returned (.bool ((zs.take n).contains x)) ∧ w' = w := Any.slices_Contains_int Tryz.lays107 b off n c zs x w hz hbig hc
def Tryz.lays109_ren : Go.Shelf.Ren := ⟨fun | 109 => 139 | n => n, fun | 31 => 76 | 9 => 9 | 3 => 3 | 0 => 0 | 4 => 4 | n => n, fun | n => n⟩
theorem Tryz.lays109 : Go.Proofs.Lays.n109 Tryz.prog Tryz.lays109_ren := {
  mixed := by kernel_rfl
  f109 := Tryz.func139.trans (congrArg some (by kernel_rfl))
  t0 := Tryz.underlying0
  a0 := Tryz.isAgg0
  z0 := Tryz.sizeOf0
  v0 := Tryz.zeroValue0
  t3 := Tryz.underlying3
  a3 := Tryz.isAgg3
  z3 := Tryz.sizeOf3
  v3 := Tryz.zeroValue3
  t4 := Tryz.underlying4
  a4 := Tryz.isAgg4
  z4 := Tryz.sizeOf4
  v4 := Tryz.zeroValue4
  t9 := Tryz.underlying9
  a9 := Tryz.isAgg9
  z9 := Tryz.sizeOf9
  v9 := Tryz.zeroValue9
  t31 := Tryz.underlying76
  a31 := Tryz.isAgg76
  z31 := Tryz.sizeOf76
  v31 := Tryz.zeroValue76 }
open Go.Lib in
/-- slices.Index at []string: "Index returns the index of the first occurrence of v in s, or -1 if not present.": IT RETURNS 'Lib.idxOfS (the elements) v'; the world is as it was. 'zs': what the cells behind the slice's address hold (its spare capacity too, if you have it); 'zs.take n': its elements. (LAID: no walk: one application.) -/
theorem Tryz.slices_Index_string (b off n c : Nat) (zs : List ByteArray) (x : ByteArray) (w : World) (hz : n ≤ zs.length) (hbig : n ≤ 9223372036854775807) (hc : ∀ j, j < zs.length → w.cell? ⟨b, off + j, none⟩ = some (.string (zs.getD j ByteArray.empty))) :
    Calls Tryz.prog 139 #[.slice (some ⟨b, off, none⟩) n c, .string x] w fun e w' => e = .returned (.int .i64 (Lib.idxOfS (zs.take n) x)) ∧ w' = w := Any.slices_Index_string Tryz.lays109 b off n c zs x w hz hbig hc
end Go.Proofs
namespace Go.Proofs.YtjgpmnffagdhlaaGreatDoor
open Go Go.RowKit
set_option maxRecDepth 100000
/-- Two texts, one behind the other. -/
theorem cat_run (w : World) (x y : List UInt8) (h : x.length + y.length ≤ 10000000) : (Op.stringOp .add ⟨x.toArray⟩ ⟨y.toArray⟩).run Tryz.prog w = .ok (.string ⟨(x ++ y).toArray⟩) w := by
  rw [run_string_add_sum w ⟨x.toArray⟩ ⟨y.toArray⟩ (by show x.toArray.size + y.toArray.size ≤ _; simp; omega)]
  congr 2
set_option maxHeartbeats 400000 in
theorem text_text (x : Val) (m : Int) (w : World) (hk0 : (x.k == 0) = false) (hk1 : (x.k == 1) = false) (hk2 : (x.k == 2) = false) (hk : (x.k == 3) = true) (hs : x.s.size ≤ 2000) (hm : w.cell? ⟨1, 0, none⟩ = some (.int .i64 m)) :
    Calls Tryz.prog 71 #[x.v] w fun e w' => e = .returned (.string ⟨([39] ++ sub1 39 [39, 39] x.s.data.toList ++ [39]).toArray⟩) ∧ Below w.heap.size w w' := by
  have hlt : 1 < w.heap.size := World.block_lt_of_cell? _ _ hm
  have hr := replaceAll_sub1 39 [39, 39] x.s.data.toList (by simp)
  have hlen := sub1_length 39 [39, 39] x.s.data.toList
  have hsz : x.s.data.toList.length = x.s.size := rfl
  rw [hsz] at hlen
  generalize sub1 39 [39, 39] x.s.data.toList = r at hr hlen ⊢
  have Hr := Lib.hid hr
  have hcnt : x.s.size + Lib.countB x.s ⟨#[39]⟩ * 2 ≤ 140737488355328 := by
    have := Lib.countB_mul_le ⟨#[39]⟩ (by decide) x.s.size x.s (Nat.le_refl _)
    have e1 : (⟨#[39]⟩ : ByteArray).size = 1 := rfl
    rw [e1] at this
    omega
  have c1 : ∀ w, (Op.stringOp .add ⟨#[39]⟩ ⟨r.toArray⟩).run Tryz.prog w = .ok (.string ⟨([39] ++ r).toArray⟩) w := fun w => cat_run w [39] r (by simp only [List.length_cons, List.length_nil] at hlen ⊢; omega)
  have c2 : ∀ w, (Op.stringOp .add ⟨([39] ++ r).toArray⟩ ⟨#[39]⟩).run Tryz.prog w = .ok (.string ⟨([39] ++ r ++ [39]).toArray⟩) w := fun w => cat_run w ([39] ++ r) [39] (by simp only [List.length_append, List.length_cons, List.length_nil] at hlen ⊢; omega)
  clear hr hsz hlen
  generalize ([39] ++ r) = r1 at c1 c2 ⊢
  generalize (r1 ++ [39]) = r2 at c2 ⊢
  go_enter Tryz.func71, Tryz.ntmps71
  go_wp2_with fail
  refine (Tryz.strings_ReplaceAll _ _ _ m _ (by omega) ?_ (by decide) hcnt).mono ?_
  · rw [World.cell?_alloc_past _ _ _ hlt]; exact hm
  rintro e w1 ⟨rfl, hb1⟩
  have e1 : Lib.replaceAll x.s.data.toList (⟨#[39]⟩ : ByteArray).data.toList (⟨#[39, 39]⟩ : ByteArray).data.toList = r := Hr.out
  rw [e1]
  clear e1
  have hb : Below w.heap.size w w1 := (below_one _ _).trans (hb1.mono (by simp))
  clear hb1 hcnt
  go_wp2
  go_ret
  exact ⟨rfl, hb⟩
theorem below_grow (w : World) (k : Nat) (os : Array Obj) : Below w.heap.size w (Sort.grow (w.drewN k) os) :=
  ⟨rfl, rfl, rfl, by show w.heap.size ≤ (w.heap ++ os).size; simp, fun i hi => by
    show (w.heap ++ os)[i]? = w.heap[i]?
    rw [Array.getElem?_append_left hi]⟩
/-- The table of powers of ten stands as it stood. -/
def Tab (w : World) : Prop := Lib.TabIs Tryz.prog w "internal/strconv.uint64pow10" .u64 Lib.pow10Tab
theorem Tab.after {w w' : World} (h : Tab w) (hb : Below w.heap.size w w') (hg : 2 < w.heap.size) : Tab w' := by
  unfold Tab Lib.TabIs at *
  have hn : Tryz.prog.globalNamed "internal/strconv.uint64pow10" = some 2 := by kernel_rfl
  have e : w'.var? Tryz.prog "internal/strconv.uint64pow10" = w.var? Tryz.prog "internal/strconv.uint64pow10" := by
    unfold World.var?
    rw [hn]
    simp only [Option.bind_some, hb.block _ hg]
  rw [e]
  exact h
set_option maxHeartbeats 400000 in
theorem text_null (x : Val) (w : World) (h : (x.k == 0) = true) : Calls Tryz.prog 71 #[x.v] w fun e w' => e = .returned (.string ⟨#[110, 117, 108, 108]⟩) ∧ Below w.heap.size w w' := by
  go_enter Tryz.func71, Tryz.ntmps71
  go_wp2
  go_ret
  exact ⟨rfl, below_one _ _⟩
set_option maxHeartbeats 400000 in
theorem text_false (x : Val) (w : World) (h0 : (x.k == 0) = false) (h : (x.k == 1) = true) (hn : (x.n == 0) = true) : Calls Tryz.prog 71 #[x.v] w fun e w' => e = .returned (.string ⟨#[102, 97, 108, 115, 101]⟩) ∧ Below w.heap.size w w' := by
  go_enter Tryz.func71, Tryz.ntmps71
  go_wp2
  go_ret
  exact ⟨rfl, below_one _ _⟩
set_option maxHeartbeats 400000 in
theorem text_true (x : Val) (w : World) (h0 : (x.k == 0) = false) (h : (x.k == 1) = true) (hn : (x.n == 0) = false) : Calls Tryz.prog 71 #[x.v] w fun e w' => e = .returned (.string ⟨#[116, 114, 117, 101]⟩) ∧ Below w.heap.size w w' := by
  go_enter Tryz.func71, Tryz.ntmps71
  go_wp2
  go_ret
  exact ⟨rfl, below_one _ _⟩
set_option maxHeartbeats 400000 in
theorem text_int (x : Val) (w : World) (h0 : (x.k == 0) = false) (h1 : (x.k == 1) = false) (h : (x.k == 2) = true) (hn : -9223372036854775808 ≤ x.n ∧ x.n ≤ 9223372036854775807) (hT : Tab w) (hg : 2 < w.heap.size) :
    Calls Tryz.prog 71 #[x.v] w fun e w' => e = .returned (.string ⟨(Lib.itoa x.n).toArray⟩) ∧ Below w.heap.size w w' := by
  have HT := Lib.hid hT
  have Hn := Lib.hid hn
  clear hT hn
  go_enter Tryz.func71, Tryz.ntmps71
  go_wp2_with fail
  refine (Tryz.strconv_Itoa _ Hn.out.1 Hn.out.2 _ (HT.out.after (below_one _ _) hg)).mono ?_
  rintro e w1 ⟨rfl, k, os, hw1⟩
  have hb : Below w.heap.size w w1 := by
    rw [hw1]
    exact (below_one w _).trans ((below_grow _ k os).mono (by simp))
  clear hw1
  go_wp2
  go_ret
  exact ⟨rfl, hb⟩
set_option maxHeartbeats 400000 in
theorem text_other (x : Val) (w : World) (h0 : (x.k == 0) = false) (h1 : (x.k == 1) = false) (h2 : (x.k == 2) = false) (h3 : (x.k == 3) = false) : Calls Tryz.prog 71 #[x.v] w fun e w' => e = .returned (.string ⟨#[63]⟩) ∧ Below w.heap.size w w' := by
  go_enter Tryz.func71, Tryz.ntmps71
  go_wp2
  go_ret
  exact ⟨rfl, below_one _ _⟩
/-- What a text's making reads of the program's variables. -/
structure Gl (w : World) : Prop where
  m : ∃ m : Int, w.cell? ⟨1, 0, none⟩ = some (.int .i64 m)
  tab : Tab w
  lt : 2 < w.heap.size
theorem Gl.after {w w' : World} (h : Gl w) (hb : Below w.heap.size w w') : Gl w' := by
  obtain ⟨⟨m, hm⟩, hT, hl⟩ := h
  exact ⟨⟨m, (hb.cell (World.block_lt_of_cell? _ _ hm)).trans hm⟩, hT.after hb hl, Nat.lt_of_lt_of_le hl hb.size⟩
theorem text_c (x : Val) (w : World) (hn : -9223372036854775808 ≤ x.n ∧ x.n ≤ 9223372036854775807) (hs : x.s.size ≤ 2000) (hG : Gl w) :
    Calls Tryz.prog 71 #[x.v] w fun e w' => e = .returned (.string ⟨(textL x).toArray⟩) ∧ Below w.heap.size w w' := by
  obtain ⟨⟨m, hm⟩, hT, hg⟩ := hG
  unfold textL
  cases h0 : x.k == 0
  · cases h1 : x.k == 1
    · cases h2 : x.k == 2
      · cases h3 : x.k == 3
        · exact text_other x w h0 h1 h2 h3
        · exact text_text x m w h0 h1 h2 h3 hs hm
      · exact text_int x w h0 h1 h2 hn hT hg
    · cases hz : x.n == 0
      · exact text_true x w h0 h1 hz
      · exact text_false x w h0 h1 hz
  · exact text_null x w h0
theorem sOk : ElOk Tryz.prog 76 9 1 16 (.string ⟨#[]⟩) rdS where
  under := Tryz.underlying76
  info := by kernel_rfl
  zs := rfl
  pos := by decide
  len := fun _ => rfl
  one := fun x u hu => by
    simp [rdS] at hu
    rcases hu with rfl; rfl
/-- The program's variables lie below. -/
def GLt (n : Nat) : Prop := 1 < n ∧ 2 < n ∧ 5 < n ∧ 6 < n
theorem GLt.le {n m : Nat} (h : GLt n) (hm : n ≤ m) : GLt m := by
  obtain ⟨h1, h2, h3, h4⟩ := h
  exact ⟨by omega, by omega, by omega, by omega⟩
/-- What the program reads of its variables. -/
structure GL (w : World) : Prop where
  gl : Gl w
  syn : ∃ tp p, w.var? Tryz.prog "strconv.ErrSyntax" = some #[.iface tp p]
  rng : ∃ tp p, w.var? Tryz.prog "strconv.ErrRange" = some #[.iface tp p]
  lt : GLt w.heap.size
theorem GL.below {w w' : World} {B : Nat} (h : GL w) (hb : Below B w w') (hB : GLt B) : GL w' := by
  obtain ⟨⟨⟨m, hm⟩, h0, hl⟩, ⟨t1, p1, h1⟩, ⟨t2, p2, h2⟩, l1⟩ := h
  have n0 : Tryz.prog.globalNamed "internal/strconv.uint64pow10" = some 2 := by kernel_rfl
  have n1 : Tryz.prog.globalNamed "strconv.ErrSyntax" = some 5 := by kernel_rfl
  have n2 : Tryz.prog.globalNamed "strconv.ErrRange" = some 6 := by kernel_rfl
  have e0 : w'.var? Tryz.prog "internal/strconv.uint64pow10" = w.var? Tryz.prog "internal/strconv.uint64pow10" := by
    unfold World.var?
    rw [n0]
    simp only [Option.bind_some, hb.block _ hB.2.1]
  have e1 : w'.var? Tryz.prog "strconv.ErrSyntax" = w.var? Tryz.prog "strconv.ErrSyntax" := by
    unfold World.var?
    rw [n1]
    simp only [Option.bind_some, hb.block _ hB.2.2.1]
  have e2 : w'.var? Tryz.prog "strconv.ErrRange" = w.var? Tryz.prog "strconv.ErrRange" := by
    unfold World.var?
    rw [n2]
    simp only [Option.bind_some, hb.block _ hB.2.2.2]
  have h0' : Tab w' := by
    unfold Tab Lib.TabIs at *
    rw [e0]
    exact h0
  exact ⟨⟨⟨m, (hb.cell hB.1).trans hm⟩, h0', Nat.lt_of_lt_of_le hl hb.size⟩, ⟨t1, p1, e1.trans h1⟩, ⟨t2, p2, e2.trans h2⟩, l1.le hb.size⟩
theorem GL.after {w w' : World} (h : GL w) (hb : Below w.heap.size w w') : GL w' := h.below hb h.lt
end Go.Proofs.YtjgpmnffagdhlaaGreatDoor
namespace Go.Proofs.YtjgpmnffagdhlaaGreatDoor
open Go Go.RowKit
set_option maxRecDepth 100000
/-- The class of a number, once it is known where it stands among the signs. -/
def clsI (n : Int) (s : Bool) : Int :=
  if n == 32 then 1 else if decide (97 ≤ n) && decide (n ≤ 122) then 2 else if decide (48 ≤ n) && decide (n ≤ 57) then 3 else if n == 95 then 4 else if n == 39 then 5 else if n == 45 then 6 else if s then 7 else 0
theorem cls_I (b : UInt8) : clsI (b.toNat : Int) (decide (0 ≤ Lib.indexByte sgns b)) = cls b := by
  unfold clsI cls
  simp only [beq_iff_eq, Bool.and_eq_true, decide_eq_true_eq]
  have h1 : ((b.toNat : Int) = 32) ↔ b.toNat = 32 := by omega
  have h2 : ((97 : Int) ≤ b.toNat) ↔ 97 ≤ b.toNat := by omega
  have h3 : ((b.toNat : Int) ≤ 122) ↔ b.toNat ≤ 122 := by omega
  have h4 : ((48 : Int) ≤ b.toNat) ↔ 48 ≤ b.toNat := by omega
  have h5 : ((b.toNat : Int) ≤ 57) ↔ b.toNat ≤ 57 := by omega
  have h6 : ((b.toNat : Int) = 95) ↔ b.toNat = 95 := by omega
  have h7 : ((b.toNat : Int) = 39) ↔ b.toNat = 39 := by omega
  have h8 : ((b.toNat : Int) = 45) ↔ b.toNat = 45 := by omega
  simp only [h1, h2, h3, h4, h5, h6, h7, h8]
set_option maxHeartbeats 4000000 in
theorem cls_i (n : Int) (ix : Int) (w : World) (hix : Lib.indexByte (⟨#[40, 41, 91, 93, 44, 61, 60, 43, 45, 42, 63]⟩ : ByteArray).data.toList n.toNat.toUInt8 = ix) :
    Calls Tryz.prog 109 #[.int .u8 n] w fun e w' => e = .returned (.int .i64 (clsI n (decide (0 ≤ ix)))) ∧ w' = w := by
  have Hx := Lib.hid hix
  clear hix
  obtain ⟨R, hR⟩ : ∃ R, clsI n (decide (0 ≤ ix)) = R := ⟨_, rfl⟩
  rw [hR]
  have HR := Lib.hid hR
  clear hR
  go_enter Tryz.func109, Tryz.ntmps109
  go_wp2_with (go_at_call 159; refine (Tryz.strings_IndexByte _ _ _).mono ?_; rintro e w1 ⟨rfl, rfl⟩; rw [Hx.out])
  all_goals go_ret
  all_goals
    refine ⟨?_, rfl⟩
    have hR := HR.out
    unfold clsI at hR
    rw [← hR]
    clear hR HR Hx
    congr 2
    simp_all
    try omega
theorem cls_c (b : UInt8) (w : World) : Calls Tryz.prog 109 #[.int .u8 (b.toNat : Int)] w fun e w' => e = .returned (.int .i64 (cls b)) ∧ w' = w := by
  have h := cls_i (b.toNat : Int) (Lib.indexByte sgns b) w (by
    have e : ((b.toNat : Int)).toNat.toUInt8 = b := by simp
    rw [e]
    rfl)
  rw [cls_I] at h
  exact h
end Go.Proofs.YtjgpmnffagdhlaaGreatDoor
namespace Go.Proofs.YtjgpmnffagdhlaaGreatDoor
open Go Go.RowKit
set_option maxRecDepth 100000
/-- Block b is a reader, in which l is left. -/
def Rd (w : World) (b : Nat) (l : List UInt8) : Prop := w.heap[b]? = some (.cells #[.string (ba l)] 126 (0, 0))
theorem Rd.cell {w : World} {b : Nat} {l : List UInt8} (h : Rd w b l) : w.cell? ⟨b, 0, none⟩ = some (.string (ba l)) := by unfold Rd at h; simp [World.cell?, h]
theorem Rd.frozen {w : World} {b : Nat} {l : List UInt8} (h : Rd w b l) : w.frozen? ⟨b, 0, none⟩ = false := by unfold Rd at h; simp [World.frozen?, h]
theorem Rd.lt {w : World} {b : Nat} {l : List UInt8} (h : Rd w b l) : b < w.heap.size := by
  rcases Nat.lt_or_ge b w.heap.size with hlt | hge
  · exact hlt
  · unfold Rd at h; rw [Array.getElem?_eq_none hge] at h; cases h
theorem Rd.after {w w' : World} {b : Nat} {l : List UInt8} (h : Rd w b l) (hb : Below w.heap.size w w') : Rd w' b l := (hb.block b h.lt).trans h
theorem Rd.alloc {w : World} {b : Nat} {l : List UInt8} (h : Rd w b l) (o : Obj) : Rd (w.alloc o) b l := h.after (below_one w o)
theorem Rd.set {w : World} {b : Nat} {l : List UInt8} (h : Rd w b l) (r : List UInt8) : Rd (w.setCell ⟨b, 0, none⟩ (.string (ba r))) b r := by
  unfold Rd at *
  simp [World.setCell, Array.getElem?_modify, h]
theorem ba_take (l : List UInt8) (n : Nat) : (ba l).extract 0 n = ba (l.take n) := by
  apply ByteArray.ext
  simp
theorem ba_drop (l : List UInt8) (n : Nat) : (ba l).extract n l.length = ba (l.drop n) := by
  apply ByteArray.ext
  simp
  exact List.take_of_length_le (by simp)
set_option maxHeartbeats 1000000 in
theorem take_c (b n : Nat) (l : List UInt8) (w : World) (hR : Rd w b l) (hn : n ≤ l.length) (_hl : l.length ≤ 1000000) :
    Calls Tryz.prog 110 #[.pointer (some ⟨b, 0, none⟩), .int .i64 n] w fun e w' => e = .returned (.string (ba (l.take n))) ∧ w' = w.setCell ⟨b, 0, none⟩ (.string (ba (l.drop n))) := by
  have h0 := hR.cell
  have hf := hR.frozen
  have hlt := hR.lt
  go_enter Tryz.func110, Tryz.ntmps110
  go_wp2_with fail
  go_ret
  exact ⟨by rw [ba_take]; rfl, by rw [ba_drop]⟩
theorem tw_step (p : UInt8 → Bool) : ∀ (l : List UInt8) (k : Nat) (x : UInt8), k ≤ (l.takeWhile p).length → l[k]? = some x → (p x = true → k + 1 ≤ (l.takeWhile p).length) ∧ (p x = false → k = (l.takeWhile p).length)
  | [], k, x, _, hx => by simp at hx
  | c :: l, 0, x, _, hx => by
    simp at hx
    subst hx
    rw [List.takeWhile_cons]
    constructor
    · intro h; rw [h]; simp
    · intro h; rw [h]; simp
  | c :: l, k + 1, x, hk, hx => by
    rw [List.takeWhile_cons] at hk ⊢
    cases hc : p c
    · rw [hc] at hk; simp at hk
    · rw [hc] at hk
      simp only [if_true, List.length_cons] at hk ⊢
      have := tw_step p l k x (by omega) (by simpa using hx)
      exact ⟨fun h => by have := this.1 h; omega, fun h => by have := this.2 h; omega⟩
theorem tw_take (p : UInt8 → Bool) (l : List UInt8) : l.take (l.takeWhile p).length = l.takeWhile p ∧ l.drop (l.takeWhile p).length = l.dropWhile p := by
  have h := List.takeWhile_append_dropWhile (p := p) (l := l)
  constructor
  · conv => lhs; arg 2; rw [← h]
    rw [List.take_left]
  · conv => lhs; arg 2; rw [← h]
    rw [List.drop_left]
theorem tw_le (p : UInt8 → Bool) (l : List UInt8) : (l.takeWhile p).length ≤ l.length := by
  have := congrArg List.length (List.takeWhile_append_dropWhile (p := p) (l := l))
  rw [List.length_append] at this
  omega
set_option maxHeartbeats 1000000 in
theorem run_c (b cb m c : Nat) (cs : List Int) (l : List UInt8) (w : World) (hR : Rd w b l) (hm : cs.length = m) (hm2 : m ≤ 100) (hcs : ∀ j, j < cs.length → w.cell? ⟨cb, 0 + j, none⟩ = some (.int .i64 (cs.getD j 0))) (hl : l.length ≤ 1000000) :
    Calls Tryz.prog 75 #[.pointer (some ⟨b, 0, none⟩), .slice (some ⟨cb, 0, none⟩) m c] w fun e w' => e = .returned (.string (ba (l.takeWhile (isIn cs)))) ∧ w' = w.setCell ⟨b, 0, none⟩ (.string (ba (l.dropWhile (isIn cs)))) := by
  have h0 := hR.cell
  have hlt := hR.lt
  have HR := Lib.hid hR
  have Hm := Lib.hid hm
  have Hc := Lib.hid hcs
  obtain ⟨h1, h2⟩ := tw_take (isIn cs) l
  have Hle := Lib.hid (tw_le (isIn cs) l)
  have Hst := Lib.hid (tw_step (isIn cs) l)
  generalize (l.takeWhile (isIn cs)) = T at h1 h2 Hle Hst ⊢
  generalize (l.dropWhile (isIn cs)) = D at h2 ⊢
  have H1 := Lib.hid h1
  have H2 := Lib.hid h2
  clear hR hm hcs h1 h2
  go_enter Tryz.func75, Tryz.ntmps75
  go_wp2_with fail
  go_loopw [5] (fun i wr => ∃ k : Nat, k ≤ T.length ∧ i = .int .i64 k ∧ w = wr) (fun i _ => l.length - (intOf i).toNat)
  case atStart => exact ⟨0, Nat.zero_le _, rfl, rfl⟩
  case round =>
    obtain ⟨k, hk, rfl, rfl⟩ := hrel
    have hkl : k ≤ l.length := Nat.le_trans hk Hle.out
    by_cases hlt2 : k < l.length
    · obtain ⟨x, hx⟩ : ∃ x, l[k]? = some x := ⟨_, List.getElem?_eq_getElem hlt2⟩
      have Hx := Lib.hid hx
      have Hk := Lib.hid hk
      have Hg : Hid ((ba l)[k]'(show k < l.toArray.size by simpa using hlt2) = x) := by
        have e := (List.getElem?_eq_some_iff.1 hx).2
        show l.toArray[k]'(by simpa using hlt2) = x
        simpa using e
      clear hx hk
      go_wp2_with fail
      refine (cls_c _ _).mono ?_
      rintro e w1 ⟨rfl, rfl⟩
      rw [Hg.out]
      have hin : isIn cs x = (cs.take m).contains (cls x) := by
        rw [List.take_of_length_le (by rw [Hm.out]; exact Nat.le_refl _)]
        rfl
      have Hin := Lib.hid hin
      clear hin
      generalize cls x = cx at Hin ⊢
      go_wp2_with fail
      refine (Tryz.slices_Contains_int cb 0 m c cs cx _ (by rw [Hm.out]; exact Nat.le_refl _) (by omega) Hc.out).mono ?_
      rintro e w2 ⟨rfl, rfl⟩
      rw [← Hin.out]
      cases hi : isIn cs x
      · have hkT := (Hst.out k x Hk.out Hx.out).2 hi
        have Hkt := Lib.hid hkT
        clear hkT hi
        go_wp2_with fail
        refine (take_c b k l _ HR.out (by omega) hl).mono ?_
        rintro e w3 ⟨rfl, rfl⟩
        go_wp2
        go_ret
        rw [Hkt.out, H1.out, H2.out]
        exact ⟨rfl, rfl⟩
      · have hkT := (Hst.out k x Hk.out Hx.out).1 hi
        have Hkt := Lib.hid hkT
        clear hkT hi
        go_wp2_with fail
        go_roundw
        case rel => exact ⟨k + 1, Hkt.out, by go_num, trivial⟩
        case measure => simp [intOf]; omega
    · have hke : k = l.length := by omega
      have hkT : k = T.length := by have := Hle.out; omega
      have Hkt := Lib.hid hkT
      clear hkT hke hk
      go_wp2_with fail
      refine (take_c b k l _ HR.out (by omega) hl).mono ?_
      rintro e w3 ⟨rfl, rfl⟩
      go_wp2
      go_ret
      rw [Hkt.out, H1.out, H2.out]
      exact ⟨rfl, rfl⟩
end Go.Proofs.YtjgpmnffagdhlaaGreatDoor
namespace Go.Proofs.YtjgpmnffagdhlaaGreatDoor
open Go Go.RowKit
set_option maxRecDepth 100000
abbrev Tk.val (a : Tk) : Value := .agg #[.int .i64 a.k, .string a.t, .int .i64 a.v.k, .int .i64 a.v.n, .string a.v.s]
abbrev Tk.obj (a : Tk) : Obj := .cells #[.int .i64 a.k, .string a.t, .int .i64 a.v.k, .int .i64 a.v.n, .string a.v.s] 129
/-- Block b holds the token a. -/
def Bt (w : World) (b : Nat) (a : Tk) : Prop := w.heap[b]? = some (.cells #[.int .i64 a.k, .string a.t, .int .i64 a.v.k, .int .i64 a.v.n, .string a.v.s] 129 (0, 0))
theorem Bt.cell0 {w : World} {b : Nat} {a : Tk} (h : Bt w b a) : w.cell? ⟨b, 0, none⟩ = some (.int .i64 a.k) := by unfold Bt at h; simp [World.cell?, h]
theorem Bt.cell1 {w : World} {b : Nat} {a : Tk} (h : Bt w b a) : w.cell? ⟨b, 1, none⟩ = some (.string a.t) := by unfold Bt at h; simp [World.cell?, h]
theorem Bt.cell2 {w : World} {b : Nat} {a : Tk} (h : Bt w b a) : w.cell? ⟨b, 2, none⟩ = some (.int .i64 a.v.k) := by unfold Bt at h; simp [World.cell?, h]
theorem Bt.cell3 {w : World} {b : Nat} {a : Tk} (h : Bt w b a) : w.cell? ⟨b, 3, none⟩ = some (.int .i64 a.v.n) := by unfold Bt at h; simp [World.cell?, h]
theorem Bt.cell4 {w : World} {b : Nat} {a : Tk} (h : Bt w b a) : w.cell? ⟨b, 4, none⟩ = some (.string a.v.s) := by unfold Bt at h; simp [World.cell?, h]
theorem Bt.frozen {w : World} {b : Nat} {a : Tk} (h : Bt w b a) (i : Nat) : w.frozen? ⟨b, i, none⟩ = false := by
  unfold Bt at h
  simp [World.frozen?, h]
theorem Bt.lt {w : World} {b : Nat} {a : Tk} (h : Bt w b a) : b < w.heap.size := by
  rcases Nat.lt_or_ge b w.heap.size with hlt | hge
  · exact hlt
  · unfold Bt at h; rw [Array.getElem?_eq_none hge] at h; cases h
theorem Bt.after {w w' : World} {b : Nat} {a : Tk} (h : Bt w b a) (hb : Below w.heap.size w w') : Bt w' b a := (hb.block b h.lt).trans h
theorem Bt.new (w : World) (a : Tk) : Bt (w.alloc a.obj) w.heap.size a := by
  show (w.heap.push _)[w.heap.size]? = _
  simp
/-- The world with the token a in block b. -/
def put5 (w : World) (b : Nat) (a : Tk) : World := ((((w.setCell ⟨b, 0, none⟩ (.int .i64 a.k)).setCell ⟨b, 1, none⟩ (.string a.t)).setCell ⟨b, 2, none⟩ (.int .i64 a.v.k)).setCell ⟨b, 3, none⟩ (.int .i64 a.v.n)).setCell ⟨b, 4, none⟩ (.string a.v.s)
theorem Bt.put {w : World} {b : Nat} {x : Tk} (h : Bt w b x) (a : Tk) : Bt (put5 w b a) b a := by
  unfold Bt at h
  simp [Bt, put5, World.setCell, Array.getElem?_modify, h]
theorem put5_below {B : Nat} {w0 w : World} {b : Nat} (h : Below B w0 w) (hb : B ≤ b) (a : Tk) : Below B w0 (put5 w b a) := ((((h.setCell hb _).setCell hb _).setCell hb _).setCell hb _).setCell hb _
theorem put5_heap {w : World} {b k : Nat} (a : Tk) (hne : k ≠ b) : (put5 w b a).heap[k]? = w.heap[k]? := by
  simp only [put5]
  rw [Below.heap_setCell _ _ _ _ (by exact hne), Below.heap_setCell _ _ _ _ (by exact hne), Below.heap_setCell _ _ _ _ (by exact hne), Below.heap_setCell _ _ _ _ (by exact hne), Below.heap_setCell _ _ _ _ (by exact hne)]
/-- A function whose results are a token and another value, at its return. -/
theorem ret_tok {fn : Func} {R : Ending → World → Prop} {F : Act} {w : World} {t u : Tmp} {b : Nat} {a : Tk} {z : Value} (hres : fn.results = #[.cell t 129, .tmp u]) (ht : Reg.slot F t = .pointer (some ⟨b, 0, none⟩)) (hu : Reg.slot F u = z) (hb : Bt w b a) (hd : F.defers = [])
    (hR : R (.returned (.tuple #[a.val, z])) w) : bodyPost Tryz.prog fn R .ret F w := by
  have h0 := hb.cell0
  have h1 := hb.cell1
  have h2 := hb.cell2
  have h3 := hb.cell3
  have h4 := hb.cell4
  refine bodyPost_ret (v := .tuple #[a.val, z]) ?_ hd hR
  have ht' : F.tmps[t]?.getD undef = .pointer (some ⟨b, 0, none⟩) := by simpa [Reg.slot] using ht
  have hu' : F.tmps[u]?.getD undef = z := by simpa [Reg.slot] using hu
  simp [results, hres, ht', hu', go_sem, h0, h1, h2, h3, h4]
/-- What a walk that turns a token's block must see. -/
theorem Bt.all {w : World} {b : Nat} {a : Tk} (h : Bt w b a) : w.cell? ⟨b, 0, none⟩ = some (.int .i64 a.k) ∧ w.cell? ⟨b, 1, none⟩ = some (.string a.t) ∧ w.cell? ⟨b, 2, none⟩ = some (.int .i64 a.v.k) ∧ w.cell? ⟨b, 3, none⟩ = some (.int .i64 a.v.n) ∧ w.cell? ⟨b, 4, none⟩ = some (.string a.v.s) ∧
    w.frozen? ⟨b, 0, none⟩ = false ∧ w.frozen? ⟨b, 1, none⟩ = false ∧ w.frozen? ⟨b, 2, none⟩ = false ∧ w.frozen? ⟨b, 3, none⟩ = false ∧ w.frozen? ⟨b, 4, none⟩ = false ∧ b < w.heap.size :=
  ⟨h.cell0, h.cell1, h.cell2, h.cell3, h.cell4, h.frozen 0, h.frozen 1, h.frozen 2, h.frozen 3, h.frozen 4, h.lt⟩
set_option maxHeartbeats 1000000 in
theorem number_syn (l : List UInt8) (w : World) (hl : l.length ≤ 1000000) (hG : GL w) (ha : Lib.atoiAll l = .«syntax») : Calls Tryz.prog 112 #[.string (ba l)] w fun e w' => e = .returned (.tuple #[tk0.val, .bool false]) ∧ Below w.heap.size w w' := by
  have HG := Lib.hid hG
  have Ha := Lib.hid ha
  clear hG ha
  go_enter Tryz.func112, Tryz.ntmps112
  go_wp2_with fail
  obtain ⟨tp, p, hv⟩ := (HG.out.after (below_one w tk0.obj)).syn
  refine (Tryz.strconv_Atoi_syntax_var (ba l) (show l.toArray.size ≤ _ by simp; omega) Ha.out tp p _ hv).mono ?_
  rintro e w1 ⟨N, rfl, _, _, hb⟩
  have hB := (Bt.new w tk0).after hb
  have Hb := Lib.hid ((below_one w _).trans (hb.mono (by simp)))
  obtain ⟨c0, c1, c2, c3, c4, f0, f1, f2, f3, f4, hlt⟩ := hB.all
  have HB := Lib.hid hB
  clear hv hb hB
  go_wp2
  exact ret_tok (a := tk0) Tryz.results112 rfl rfl (HB.out.put tk0) rfl ⟨rfl, put5_below Hb.out (Nat.le_refl _) tk0⟩
set_option maxHeartbeats 1000000 in
theorem number_rng (l : List UInt8) (w : World) (hl : l.length ≤ 1000000) (hG : GL w) (ha : Lib.atoiAll l = .range) : Calls Tryz.prog 112 #[.string (ba l)] w fun e w' => e = .returned (.tuple #[tk0.val, .bool false]) ∧ Below w.heap.size w w' := by
  have HG := Lib.hid hG
  have Ha := Lib.hid ha
  clear hG ha
  go_enter Tryz.func112, Tryz.ntmps112
  go_wp2_with fail
  obtain ⟨tp, p, hv⟩ := (HG.out.after (below_one w tk0.obj)).rng
  refine (Tryz.strconv_Atoi_range_var (ba l) (show l.toArray.size ≤ _ by simp; omega) Ha.out tp p _ hv).mono ?_
  rintro e w1 ⟨N, rfl, _, _, hb⟩
  have hB := (Bt.new w tk0).after hb
  have Hb := Lib.hid ((below_one w _).trans (hb.mono (by simp)))
  obtain ⟨c0, c1, c2, c3, c4, f0, f1, f2, f3, f4, hlt⟩ := hB.all
  have HB := Lib.hid hB
  clear hv hb hB
  go_wp2
  exact ret_tok (a := tk0) Tryz.results112 rfl rfl (HB.out.put tk0) rfl ⟨rfl, put5_below Hb.out (Nat.le_refl _) tk0⟩
set_option maxHeartbeats 1000000 in
theorem number_ok (l : List UInt8) (v : Int) (w : World) (hl : l.length ≤ 1000000) (hG : GL w) (ha : Lib.atoiAll l = .ok v) : Calls Tryz.prog 112 #[.string (ba l)] w fun e w' => e = .returned (if Lib.itoa v = l then .tuple #[(intT v).val, .bool true] else .tuple #[tk0.val, .bool false]) ∧ Below w.heap.size w w' := by
  obtain ⟨R, hR⟩ : ∃ R, (if Lib.itoa v = l then Value.tuple #[(intT v).val, .bool true] else .tuple #[tk0.val, .bool false]) = R := ⟨_, rfl⟩
  rw [hR]
  have HR := Lib.hid hR
  have HG := Lib.hid hG
  have Ha := Lib.hid ha
  have H6 := Lib.hid (atoi_64 ha)
  clear hG ha hR
  go_enter Tryz.func112, Tryz.ntmps112
  go_wp2_with fail
  refine (Tryz.strconv_Atoi_ok (ba l) (show l.toArray.size ≤ _ by simp; omega) v Ha.out _).mono ?_
  rintro e w1 ⟨rfl, hb⟩
  have hb : Below (w.alloc tk0.obj).heap.size (w.alloc tk0.obj) w1 := by
    rcases hb with rfl | ⟨t, rfl⟩
    · exact Below.refl _ _
    · exact Lib.bytesWorld_below _ _ _
  have hB := (Bt.new w tk0).after hb
  have hb1 := (below_one w tk0.obj).trans (hb.mono (by simp))
  have HG1 := Lib.hid ((HG.out.after (below_one w tk0.obj)).after hb)
  have Hb := Lib.hid hb1
  have HB := Lib.hid hB
  clear hb hb1 hB
  go_wp2_with fail
  refine (Tryz.strconv_Itoa v H6.out.1 H6.out.2 _ HG1.out.gl.tab).mono ?_
  rintro e w2 ⟨rfl, k, os, hw⟩
  have hb2 : Below w1.heap.size w1 w2 := by rw [hw]; exact below_grow _ k os
  have hB := HB.out.after hb2
  have Hb2 := Lib.hid (Hb.out.trans (hb2.mono Hb.out.size))
  obtain ⟨c0, c1, c2, c3, c4, f0, f1, f2, f3, f4, hlt⟩ := hB.all
  have HB2 := Lib.hid hB
  clear hw hb2 hB HB Hb
  by_cases he : Lib.itoa v = l
  · have hR := HR.out
    rw [if_pos he] at hR
    subst hR
    clear HR
    obtain ⟨s, hs⟩ : ∃ s, (⟨(Lib.itoa v).toArray⟩ : ByteArray) = s := ⟨_, rfl⟩
    have hs2 : ba l = s := by rw [← hs, ← he]
    rw [hs, hs2]
    clear hs hs2 he
    go_wp2
    exact ret_tok (a := intT v) Tryz.results112 rfl rfl (HB2.out.put (intT v)) rfl ⟨rfl, put5_below Hb2.out (Nat.le_refl _) (intT v)⟩
  · have hR := HR.out
    rw [if_neg he] at hR
    subst hR
    clear HR
    have hne : ((⟨(Lib.itoa v).toArray⟩ : ByteArray).toList == l) = false := by
      rw [ByteArray.toList_eq]
      simpa using he
    clear he
    generalize (⟨(Lib.itoa v).toArray⟩ : ByteArray) = s at hne ⊢
    go_wp2
    exact ret_tok (a := tk0) Tryz.results112 rfl rfl (HB2.out.put tk0) rfl ⟨rfl, put5_below Hb2.out (Nat.le_refl _) tk0⟩
/-- What a number's reading tells. -/
def numV (l : List UInt8) : Value := match numT l with
  | some t => .tuple #[t.val, .bool true]
  | none => .tuple #[tk0.val, .bool false]
theorem number_c (l : List UInt8) (w : World) (hl : l.length ≤ 1000000) (hG : GL w) : Calls Tryz.prog 112 #[.string (ba l)] w fun e w' => e = .returned (numV l) ∧ Below w.heap.size w w' := by
  cases ha : Lib.atoiAll l with
  | ok v =>
    have h := number_ok l v w hl hG ha
    have e : (if Lib.itoa v = l then Value.tuple #[(intT v).val, .bool true] else .tuple #[tk0.val, .bool false]) = numV l := by
      unfold numV numT
      rw [ha]
      simp only
      split <;> rfl
    rw [e] at h
    exact h
  | «syntax» =>
    have e : numV l = .tuple #[tk0.val, .bool false] := by unfold numV numT; rw [ha]
    rw [e]
    exact number_syn l w hl hG ha
  | range =>
    have e : numV l = .tuple #[tk0.val, .bool false] := by unfold numV numT; rw [ha]
    rw [e]
    exact number_rng l w hl hG ha
end Go.Proofs.YtjgpmnffagdhlaaGreatDoor
namespace Go.Proofs.YtjgpmnffagdhlaaGreatDoor
open Go Go.RowKit
def bcells (l : List UInt8) : List Value := l.map fun b => Value.int .u8 b.toNat
theorem bcells_append (l r : List UInt8) : bcells (l ++ r) = bcells l ++ bcells r := by simp [bcells]
/-- The slice v is the call's own, and reads as the bytes bs. -/
def Buf (w : World) (B : Nat) (v : Value) (bs : List UInt8) : Prop := w.ownsRow B 5 1 v bs.length (bcells bs)
theorem Buf.nil (w : World) (B : Nat) : Buf w B (.slice none 0 0) [] := World.ownsRow_nil w B _ 1
theorem Buf.after {w w' : World} {B : Nat} {v : Value} {bs : List UInt8} (h : Buf w B v bs) (hb : Below w.heap.size w w') : Buf w' B v bs := by
  obtain ⟨h1, h2⟩ := h
  refine ⟨h1, ?_⟩
  rcases h2 with h2 | ⟨g', cap, cur, hv, hB, hh, h3⟩
  · exact .inl h2
  · have hlt : g' < w.heap.size := by
      rcases Nat.lt_or_ge g' w.heap.size with hlt | hge
      · exact hlt
      · rw [Array.getElem?_eq_none hge] at hh; cases hh
    exact .inr ⟨g', cap, cur, hv, hB, (hb.block g' hlt).trans hh, h3⟩
theorem Buf.alloc {w : World} {B : Nat} {v : Value} {bs : List UInt8} (h : Buf w B v bs) (o : Obj) : Buf (w.alloc o) B v bs := h.after (below_one w o)
theorem Buf.lt {w : World} {B : Nat} {v : Value} {bs : List UInt8} (h : Buf w B v bs) : ∀ k, v.ownBlock = some k → B ≤ k ∧ k < w.heap.size := fun k hk => World.ownsRow.lt h k hk
theorem u8Info : (Tryz.prog.info? 5).map (fun i => (i.zero, i.size, i.bytes)) = some (some (.int .u8 0), 1, 1) := by kernel_rfl
/-- append, of one byte. -/
theorem wpList_appB {ops : Array Oper} {rest : List Oper} {o : Oper} {a : Act} {Q : Exit → Act → World → Prop} {w0 : World} {c : Int} (hgd : o.guard = none) (s x : Operand) (ho : o.op = .call { callee := .builtin .append, args := #[s, x], argTypes := #[93, 93] })
    (B : Nat) (v : Value) (bs : List UInt8) (b : UInt8) (hs : a.eval s = v) (hb : Buf w0 B v bs) (hc : c = b.toNat) (g : Nat) (hx : a.eval x = .slice (some ⟨g, 0, none⟩) 1 1) (hg : g = w0.heap.size)
    (hmax : bs.length ≤ 1000000) (hB : B ≤ w0.heap.size)
    (h : ∀ v' w', Buf w' B v' (bs ++ [b]) → w0.grownBy w' v.ownBlock → wpList Tryz.prog ops Q rest (a.put o.dst v') w') : wpList Tryz.prog ops Q (o :: rest) a (w0.alloc (.cells #[.int .u8 c] 5)) := by
  obtain ⟨i0, hi, hz0, hz1, hz2⟩ := info_parts u8Info
  subst hc hg
  have hal := hb.alloc (.cells #[.int .u8 b.toNat] 5)
  refine wpList_append_own_at _ hgd s x 93 ho B 5 i0 (.int .u8 0) 1 1 Tryz.underlying93 hi hz0 hz1 hz2 (by decide) (by decide) v bs.length (bcells bs) hs hal ⟨w0.heap.size, 0, none⟩ 1 1 [.int .u8 b.toNat] hx rfl (cell_one_new _ _ _) (fun u hu => by rw [List.mem_singleton] at hu; subst hu; rfl) (by unfold maxLen; omega) (by omega) (by simp; omega) ?_
  intro v' w' hown' hgrow _ _
  refine h v' w' ?_ ((World.grownBy_alloc w0 _ _).trans hgrow)
  unfold Buf
  rw [bcells_append, List.length_append]
  exact hown'
/-- append, of a text. -/
theorem wpList_appS {ops : Array Oper} {rest : List Oper} {o : Oper} {a : Act} {Q : Exit → Act → World → Prop} {w : World} (hgd : o.guard = none) (s x : Operand) (ho : o.op = .call { callee := .builtin .append, args := #[s, x], argTypes := #[93, 9] })
    (B : Nat) (v : Value) (bs : List UInt8) (t : ByteArray) (hs : a.eval s = v) (hb : Buf w B v bs) (hx : a.eval x = .string t)
    (hmax : bs.length + t.size ≤ 1000000) (hB : B ≤ w.heap.size)
    (h : ∀ v' w', Buf w' B v' (bs ++ t.data.toList) → w.grownBy w' v.ownBlock → wpList Tryz.prog ops Q rest (a.put o.dst v') w') : wpList Tryz.prog ops Q (o :: rest) a w := by
  obtain ⟨i0, hi, hz0, hz1, hz2⟩ := info_parts u8Info
  refine Lib.wpList_append_own_string w hgd s x 93 9 ho B 5 i0 Tryz.underlying93 Tryz.underlying9 hi hz0 hz1 hz2 v bs.length (bcells bs) hs hb t hx (by unfold maxLen; omega) (by omega) hB ?_
  intro v' w' hown' hgrow _
  refine h v' w' ?_ hgrow
  unfold Buf
  rw [bcells_append, List.length_append]
  have e : t.data.toList.length = t.size := rfl
  rw [e]
  exact hown'
/-- The buffer as a text. -/
theorem Buf.conv {w : World} {B : Nat} {v : Value} {bs : List UInt8} (h : Buf w B v bs) : (convert 93 9 v).run Tryz.prog w = .ok (.string ⟨bs.toArray⟩) w := by
  rcases h.2 with ⟨rfl, hn⟩ | ⟨g, cap, cur, rfl, _⟩
  · have : bs = [] := List.eq_nil_of_length_eq_zero hn
    subst this
    exact run_convert_bytes_nil (w := w) 93 5 Tryz.underlying93 Tryz.underlying5 0 0 9 Tryz.underlying9
  · refine run_convert_bytes_back w 93 9 5 ⟨g, 0, none⟩ cap bs Tryz.underlying93 Tryz.underlying5 Tryz.underlying9 fun j hj => ?_
    exact World.ownsRow.cells (g := g) h rfl j _ (by simp [bcells, List.getElem?_eq_getElem hj])
end Go.Proofs.YtjgpmnffagdhlaaGreatDoor
namespace Go.Proofs.YtjgpmnffagdhlaaGreatDoor
open Go Go.RowKit
set_option maxRecDepth 100000
/-- From w to w' the reader in block b has come to r; all else that there was is as it was. -/
structure Stp (w w' : World) (b : Nat) (r : List UInt8) : Prop where
  os : w'.os = w.os
  tape : w'.tape = w.tape
  output : w'.output = w.output
  size : w.heap.size ≤ w'.heap.size
  rd : Rd w' b r
  block : ∀ k, k < w.heap.size → k ≠ b → w'.heap[k]? = w.heap[k]?
theorem Stp.refl {w : World} {b : Nat} {l : List UInt8} (h : Rd w b l) : Stp w w b l := ⟨rfl, rfl, rfl, Nat.le_refl _, h, fun _ _ _ => rfl⟩
theorem Stp.then {w w1 w2 : World} {b : Nat} {l : List UInt8} (h : Stp w w1 b l) (hb : Below w1.heap.size w1 w2) : Stp w w2 b l :=
  ⟨hb.os.trans h.os, hb.tape.trans h.tape, hb.output.trans h.output, Nat.le_trans h.size hb.size, h.rd.after hb, fun k hk hne => (hb.block k (Nat.lt_of_lt_of_le hk h.size)).trans (h.block k hk hne)⟩
theorem Stp.alloc {w w1 : World} {b : Nat} {l : List UInt8} (h : Stp w w1 b l) (o : Obj) : Stp w (w1.alloc o) b l := h.then (below_one w1 o)
theorem Stp.set {w w1 : World} {b : Nat} {l : List UInt8} (h : Stp w w1 b l) (r : List UInt8) : Stp w (w1.setCell ⟨b, 0, none⟩ (.string (ba r))) b r :=
  ⟨h.os, h.tape, h.output, by simpa [World.setCell] using h.size, h.rd.set r, fun k hk hne => (Below.heap_setCell _ _ _ _ hne).trans (h.block k hk hne)⟩
theorem Stp.trans {w w1 w2 : World} {b : Nat} {l r : List UInt8} (h : Stp w w1 b l) (k : Stp w1 w2 b r) : Stp w w2 b r :=
  ⟨k.os.trans h.os, k.tape.trans h.tape, k.output.trans h.output, Nat.le_trans h.size k.size, k.rd, fun i hi hne => (k.block i (Nat.lt_of_lt_of_le hi h.size) hne).trans (h.block i hi hne)⟩
theorem Stp.below {w w' : World} {b B : Nat} {r : List UInt8} (h : Stp w w' b r) (hB : B ≤ b) (hb : b < w.heap.size) : Below B w w' :=
  ⟨h.os, h.tape, h.output, h.size, fun k hk => h.block k (by omega) (by omega)⟩
theorem Stp.bt {w w' : World} {b c : Nat} {r : List UInt8} {a : Tk} (h : Stp w w' b r) (ht : Bt w c a) (hne : c ≠ b) : Bt w' c a := (h.block c ht.lt hne).trans ht
/-- A walk that began with a block of its own. -/
theorem Stp.of_alloc {w w' : World} {b : Nat} {r : List UInt8} {o : Obj} (h : Stp (w.alloc o) w' b r) : Stp w w' b r :=
  ⟨h.os, h.tape, h.output, by have := h.size; simp at this; omega, h.rd, fun k hk hne => (h.block k (by simp; omega) hne).trans (Below.heap_alloc w o k hk)⟩
theorem Stp.put {w w1 : World} {b c : Nat} {l : List UInt8} (h : Stp w w1 b l) (hc : w.heap.size ≤ c) (hne : c ≠ b) (a : Tk) : Stp w (put5 w1 c a) b l := by
  have hp := put5_below (Below.refl c w1) (Nat.le_refl c) a
  exact ⟨hp.os.trans h.os, hp.tape.trans h.tape, hp.output.trans h.output, Nat.le_trans h.size hp.size, (put5_heap a (fun e => hne e.symm)).trans h.rd, fun k hk hk2 => (put5_heap a (by omega)).trans (h.block k hk hk2)⟩
theorem cell_new (w : World) (cs : Array Value) (E : TypeId) (i : Nat) : (w.alloc (.cells cs E)).cell? ⟨w.heap.size, i, none⟩ = cs[i]? := by
  have e : (w.alloc (.cells cs E)).heap[w.heap.size]? = some (.cells cs E (0, 0)) := by
    show (w.heap.push _)[w.heap.size]? = _
    simp
  simp only [World.cell?, e, Option.isSome_none, Bool.false_eq_true, if_false]
theorem Stp.grown {w w1 w2 : World} {b : Nat} {l : List UInt8} {row : Option Nat} (h : Stp w w1 b l) (hg : w1.grownBy w2 row) (hrow : ∀ k, row = some k → w.heap.size ≤ k) (hb : b < w.heap.size) : Stp w w2 b l := by
  have hs := h.size
  have key : ∀ k, k < w.heap.size → w2.heap[k]? = w1.heap[k]? := fun k hk => hg.block k (by omega) (fun e => by have := hrow k e.symm; omega)
  exact ⟨hg.os.trans h.os, hg.tape.trans h.tape, hg.output.trans h.output, Nat.le_trans hs hg.size, (key b hb).trans h.rd, fun k hk hne => (key k hk).trans (h.block k hk hne)⟩
theorem GL.stp {w w' : World} {b : Nat} {l r : List UInt8} (h : GL w) (hs : Stp w w' b r) (hR : Rd w b l) (hb : GLt b) : GL w' := h.below (hs.below (Nat.le_refl _) hR.lt) hb
/-- What a reading tells. -/
def OutT (o : Option (Tk × List UInt8)) (v : Value) (r : List UInt8) : Prop := match o with
  | none => v = .tuple #[tk0.val, .bool false]
  | some p => v = .tuple #[p.1.val, .bool true] ∧ r = p.2
set_option maxHeartbeats 1000000 in
theorem word_c (b : Nat) (l : List UInt8) (w : World) (hR : Rd w b l) (hl : l.length ≤ 100000) :
    Calls Tryz.prog 111 #[.pointer (some ⟨b, 0, none⟩)] w fun e w' => e = .returned (.string (ba (l.takeWhile inn))) ∧ Stp w w' b (l.dropWhile inn) := by
  have HR := Lib.hid hR
  clear hR
  obtain ⟨T, hT⟩ : ∃ T, ba (l.takeWhile inn) = T := ⟨_, rfl⟩
  obtain ⟨D, hD⟩ : ∃ D, l.dropWhile inn = D := ⟨_, rfl⟩
  rw [hT, hD]
  have HT := Lib.hid hT
  have HD := Lib.hid hD
  clear hT hD
  go_enter Tryz.func111, Tryz.ntmps111
  go_wp2_with fail
  refine (run_c b _ _ _ [2, 3, 4] l _ (HR.out.alloc _) rfl (by decide) (fun j hj => ?_) (by omega)).mono ?_
  · rw [Nat.zero_add, cell_new]
    match j, hj with
    | 0, _ => rfl
    | 1, _ => rfl
    | 2, _ => rfl
    | j + 3, h => simp at h; omega
  rintro e w1 ⟨rfl, hw⟩
  have hs : Stp w w1 b D := by rw [hw, ← HD.out]; exact ((Stp.refl HR.out).alloc _).set _
  have Hs := Lib.hid hs
  clear hs hw
  have eT : ba (l.takeWhile (isIn [2, 3, 4])) = T := HT.out
  rw [eT]
  clear eT
  go_wp2
  go_ret
  exact ⟨rfl, Hs.out⟩
theorem quo_none : ∀ l : List UInt8, 39 ∉ l → quoF false l = none
  | [], _ => rfl
  | c :: l, h => by
    simp only [List.mem_cons, not_or] at h
    rw [quoF, if_neg (fun e => h.1 e.symm), quo_none l h.2]
    rfl
theorem quo_pre (post : List UInt8) : ∀ pre : List UInt8, 39 ∉ pre → quoF false (pre ++ 39 :: post) = (quoF true post).map fun p => (pre ++ p.1, p.2)
  | [], _ => by
    rw [List.nil_append, quoF, if_pos rfl]
    cases quoF true post <;> rfl
  | c :: l, h => by
    simp only [List.mem_cons, not_or] at h
    rw [List.cons_append, quoF, if_neg (fun e => h.1 e.symm), quo_pre post l h.2]
    cases quoF true post <;> rfl
theorem index_split : ∀ (l : List UInt8) (c : UInt8), (Lib.indexByte l c = -1 ∧ c ∉ l) ∨ ∃ pre post, l = pre ++ c :: post ∧ c ∉ pre ∧ Lib.indexByte l c = pre.length
  | [], c => .inl ⟨rfl, by simp⟩
  | b :: l, c => by
    rw [Lib.indexByte]
    by_cases h : b = c
    · subst h
      exact .inr ⟨[], l, rfl, by simp, by simp⟩
    · have hb : (b == c) = false := by simpa using h
      rw [hb]
      simp only [Bool.false_eq_true, if_false]
      rcases index_split l c with ⟨h1, h2⟩ | ⟨pre, post, h1, h2, h3⟩
      · refine .inl ⟨by rw [h1]; rfl, ?_⟩
        simp only [List.mem_cons, not_or]
        exact ⟨fun e => h e.symm, h2⟩
      · refine .inr ⟨b :: pre, post, by rw [h1]; rfl, ?_, ?_⟩
        · simp only [List.mem_cons, not_or]
          exact ⟨fun e => h e.symm, h2⟩
        · rw [h3]
          have : ((pre.length : Int) == -1) = false := by simp
          rw [this]
          simp
theorem Buf.same {w w' : World} {B : Nat} {v : Value} {bs : List UInt8} (h : Buf w B v bs) (hb : ∀ k, B ≤ k → w'.heap[k]? = w.heap[k]?) : Buf w' B v bs := by
  obtain ⟨h1, h2⟩ := h
  refine ⟨h1, ?_⟩
  rcases h2 with h2 | ⟨g', cap, cur, hv, hB, hh, h3⟩
  · exact .inl h2
  · exact .inr ⟨g', cap, cur, hv, hB, (hb g' hB).trans hh, h3⟩
def rdLen (w : World) (b : Nat) : Nat := match w.cell? ⟨b, 0, none⟩ with
  | some (.string s) => s.size
  | _ => 0
theorem Rd.len {w : World} {b : Nat} {l : List UInt8} (h : Rd w b l) : rdLen w b = l.length := by
  unfold rdLen
  rw [h.cell]
  show l.toArray.size = _
  simp
set_option maxHeartbeats 2000000 in
theorem quo_c (b : Nat) (l : List UInt8) (w : World) (hR : Rd w b (39 :: l)) (hl : l.length ≤ 100000) :
    Calls Tryz.prog 113 #[.pointer (some ⟨b, 0, none⟩)] w fun e w' => ∃ v r, e = .returned v ∧ OutT ((quoF false l).map fun p => (strT p.1, p.2)) v r ∧ Stp w w' b r := by
  obtain ⟨Out, hOut⟩ : ∃ Out : Value → List UInt8 → Prop, OutT ((quoF false l).map fun p => (strT p.1, p.2)) = Out := ⟨_, rfl⟩
  rw [hOut]
  have HO := Lib.hid hOut
  have hbw := hR.lt
  have HR := Lib.hid hR
  clear hR hOut
  go_enter Tryz.func113, Tryz.ntmps113
  go_wp2_with fail
  go_loopw [4] (fun i wr => ∃ acc rest : List UInt8, Hid (Stp w wr b (39 :: rest)) ∧ Hid (Bt wr w.heap.size tk0) ∧ Hid (Buf wr (w.heap.size + 1) i acc) ∧ Hid (quoF false l = (quoF false rest).map fun p => (acc ++ p.1, p.2)) ∧ Hid (acc.length + rest.length ≤ l.length)) (fun _ wr => rdLen wr b)
  case atStart =>
    refine ⟨[], l, (Stp.refl HR.out).alloc _, Bt.new w tk0, Buf.nil _ _, ?_, ?_⟩
    · show quoF false l = _
      cases quoF false l <;> rfl
    · show _ ≤ _
      simp
  case round =>
    obtain ⟨acc, rest, hS, hB, hU, hq, hn⟩ := hrel
    have hbs : b < wr.heap.size := hS.out.rd.lt
    go_wp2_with fail
    refine (take_c b 1 (39 :: rest) _ hS.out.rd (by simp) (by have := hn.out; simp; omega)).mono ?_
    rintro e w1 ⟨rfl, hw1⟩
    have hS1 : Stp w w1 b rest := by rw [hw1]; exact hS.out.set rest
    have hb1 : Below b wr w1 := by rw [hw1]; exact (Below.refl b wr).setCell (Nat.le_refl _) _
    have hk1 : ∀ k, k ≠ b → w1.heap[k]? = wr.heap[k]? := fun k hk => by rw [hw1]; exact Below.heap_setCell _ _ _ _ hk
    have hB1 : Bt w1 w.heap.size tk0 := (hk1 _ (by omega)).trans hB.out
    have hU1 : Buf w1 (w.heap.size + 1) u4 acc := hU.out.same fun k hk => hk1 k (by omega)
    have r0 := hS1.rd.cell
    have HS1 := Lib.hid hS1
    have HB1 := Lib.hid hB1
    have HU1 := Lib.hid hU1
    have hbs1 : b < w1.heap.size := hS1.rd.lt
    have Hm := Lib.hid hS.out.rd.len
    have eT : (39 :: rest).take 1 = [39] := rfl
    rw [eT]
    clear hw1 hS1 hb1 hk1 hB1 hU1 hS hB hU hbs eT
    go_wp2_with fail
    refine (Tryz.strings_IndexByte _ _ _).mono ?_
    rintro e w2 ⟨rfl, rfl⟩
    have e39 : Lib.indexByte (ba rest).data.toList (39 : Int).toNat.toUInt8 = Lib.indexByte rest 39 := rfl
    rw [e39]
    clear e39
    rcases index_split rest 39 with ⟨h1, h2⟩ | ⟨pre, post, h1, h2, h3⟩
    · rw [h1]
      have H2 := Lib.hid h2
      obtain ⟨c0, c1, c2, c3, c4, f0, f1, f2, f3, f4, hlt⟩ := HB1.out.all
      clear h1 h2
      go_wp2
      refine ret_tok (a := tk0) Tryz.results113 rfl rfl (HB1.out.put tk0) rfl ⟨_, rest, rfl, ?_, HS1.out.put (Nat.le_refl _) (by omega) tk0⟩
      rw [← HO.out, hq.out, quo_none rest H2.out]
      rfl
    · rw [h3]
      have H1 := Lib.hid h1
      have H2 := Lib.hid h2
      have hlen : pre.length + post.length + 1 = rest.length := by rw [h1]; simp; omega
      clear h1 h2 h3
      go_wp2_with fail
      refine (take_c b pre.length rest _ HS1.out.rd (by omega) (by have := hn.out; omega)).mono ?_
      rintro e w3 ⟨rfl, hw3⟩
      have hS3 : Stp w w3 b (39 :: post) := by
        rw [hw3]
        have := HS1.out.set (rest.drop pre.length)
        rwa [show rest.drop pre.length = 39 :: post by rw [H1.out]; simp] at this ⊢
      have hk3 : ∀ k, k ≠ b → w3.heap[k]? = w2.heap[k]? := fun k hk => by rw [hw3]; exact Below.heap_setCell _ _ _ _ hk
      have hz3 : w3.heap.size = w2.heap.size := by rw [hw3]; simp [World.setCell]
      have HB3 : Hid (Bt w3 w.heap.size tk0) := (hk3 _ (by omega)).trans HB1.out
      have HU3 : Hid (Buf w3 (w.heap.size + 1) u4 acc) := HU1.out.same fun k hk => hk3 k (by omega)
      have HS3 := Lib.hid hS3
      have hbs3 : w.heap.size < w3.heap.size := by have := HB1.out.lt; omega
      have eT : rest.take pre.length = pre := by rw [H1.out]; simp
      rw [eT]
      clear hw3 hS3 hk3 hz3 eT HS1 HB1 HU1 r0 hbs1
      go_wp2_with (at_builtin; go_must (refine wpList_appS rfl (.tmp 16) (.tmp 19) rfl (w.heap.size + 1) _ acc (ba pre) rfl HU3.out rfl (by have := hn.out; show _ + pre.toArray.size ≤ _; simp; omega) (by omega) ?_; intro v4 w4 hU4 hg4))
      have hg4 : w3.grownBy w4 u4.ownBlock := hg4
      have hrow : ∀ k, u4.ownBlock = some k → w.heap.size + 1 ≤ k := fun k hk => (HU3.out.lt k hk).1
      have hS4 : Stp w w4 b (39 :: post) := HS3.out.grown hg4 (fun k hk => by have := hrow k hk; omega) hbw
      have hB4 : Bt w4 w.heap.size tk0 := (hg4.block _ hbs3 (fun e => by have := hrow _ e.symm; omega)).trans HB3.out
      clear HB3 HU3 HS3
      refine (take_c b 1 (39 :: post) _ hS4.rd (by simp) (by have := hn.out; simp; omega)).mono ?_
      rintro e w5 ⟨rfl, hw5⟩
      have hS5 : Stp w w5 b post := by rw [hw5]; exact hS4.set post
      have hk5 : ∀ k, k ≠ b → w5.heap[k]? = w4.heap[k]? := fun k hk => by rw [hw5]; exact Below.heap_setCell _ _ _ _ hk
      have hB5 : Bt w5 w.heap.size tk0 := (hk5 _ (by omega)).trans hB4
      have hU5 : Buf w5 (w.heap.size + 1) v4 (acc ++ pre) := hU4.same fun k hk => hk5 k (by omega)
      have r0 := hS5.rd.cell
      have HS5 := Lib.hid hS5
      have HB5 := Lib.hid hB5
      have HU5 := Lib.hid hU5
      have hbs5 : w.heap.size < w5.heap.size := hB5.lt
      have hbl5 : b < w5.heap.size := hS5.rd.lt
      have hconv := hU5.conv
      have eT : (39 :: post).take 1 = [39] := rfl
      rw [eT]
      clear hw5 hS5 hk5 hB5 hU5 hS4 hB4 hU4 hg4 hrow hbs3 eT
      have hq2 : quoF false l = (quoF true post).map fun p => ((acc ++ pre) ++ p.1, p.2) := by
        rw [hq.out, H1.out, quo_pre post pre H2.out]
        cases quoF true post <;> simp
      have Hq2 := Lib.hid hq2
      clear hq2
      have hbuf : (⟨(acc ++ pre).toArray⟩ : ByteArray) = ba (acc ++ pre) := rfl
      rw [hbuf] at hconv
      clear hbuf
      have hlen2 : Hid ((acc ++ pre).length + 1 + post.length ≤ l.length) := by
        have := hn.out
        show _ ≤ _
        rw [List.length_append]
        omega
      have hm2 : Hid (post.length < rdLen wr b) := by
        have := Hm.out
        show _ < _
        rw [this, List.length_cons]
        omega
      clear hlen hn Hm H1 H2 hq
      generalize (acc ++ pre) = A at HU5 hconv Hq2 hlen2
      obtain ⟨c0, c1, c2, c3, c4, f0, f1, f2, f3, f4, hlt⟩ := HB5.out.all
      cases post with
      | nil =>
        go_wp2
        refine ret_tok (a := strT A) (z := .bool true) Tryz.results113 rfl rfl (HB5.out.put (strT A)) rfl ⟨_, [], rfl, ?_, HS5.out.put (Nat.le_refl _) (by omega) (strT A)⟩
        rw [← HO.out, Hq2.out]
        refine ⟨?_, rfl⟩
        simp
      | cons c post =>
        have Hg : Hid ((ba (c :: post))[0]'(by show 0 < (c :: post).toArray.size; simp) = c) := rfl
        go_wp2_with fail
        refine (cls_c _ _).mono ?_
        rintro e w6 ⟨rfl, rfl⟩
        rw [Hg.out]
        clear Hg
        by_cases hc : cls c = 5
        · have hc39 : c = 39 := by have := byte_of (cls_5.1 hc); simpa using this
          rw [hc]
          have Hc := Lib.hid hc39
          clear hc hc39
          go_wp2_with (at_builtin; go_must (refine wpList_appB rfl (.tmp 41) (.tmp 42) rfl (w.heap.size + 1) _ A 39 rfl HU5.out rfl _ rfl rfl (by have := hlen2.out; omega) (by omega) ?_; intro v7 w7 hU7 hg7))
          have hg7 : w6.grownBy w7 v4.ownBlock := hg7
          have hrow : ∀ k, v4.ownBlock = some k → w.heap.size + 1 ≤ k := fun k hk => (HU5.out.lt k hk).1
          have hS7 : Stp w w7 b (c :: post) := HS5.out.grown hg7 (fun k hk => by have := hrow k hk; omega) hbw
          have hB7 : Bt w7 w.heap.size tk0 := (hg7.block _ hbs5 (fun e => by have := hrow _ e.symm; omega)).trans HB5.out
          rw [Hc.out] at hS7
          go_roundw
          case rel =>
            refine ⟨A ++ [39], post, hS7, hB7, hU7, ?_, ?_⟩
            · show quoF false l = _
              rw [Hq2.out, Hc.out, quoF, if_pos rfl]
              cases quoF false post <;> simp
            · have := hlen2.out
              show _ ≤ _
              simp only [List.length_append, List.length_cons, List.length_nil] at this ⊢
              omega
          case measure =>
            have := hm2.out
            rw [hS7.rd.len]
            exact this
        · have hne : (cls c == 5) = false := by simpa using hc
          have hc39 : c ≠ 39 := by rintro rfl; exact hc (by decide)
          have Hc := Lib.hid hc39
          generalize cls c = cx at hne ⊢
          clear hc hc39
          go_wp2
          refine ret_tok (a := strT A) (z := .bool true) Tryz.results113 rfl rfl (HB5.out.put (strT A)) rfl ⟨_, c :: post, rfl, ?_, HS5.out.put (Nat.le_refl _) (by omega) (strT A)⟩
          rw [← HO.out, Hq2.out, quoF, if_neg Hc.out]
          refine ⟨?_, rfl⟩
          simp
end Go.Proofs.YtjgpmnffagdhlaaGreatDoor
namespace Go.Proofs.YtjgpmnffagdhlaaGreatDoor
open Go Go.RowKit
set_option maxRecDepth 100000
theorem run1_cells (w : World) (x : Int) (E : TypeId) : ∀ j, j < [x].length → (w.alloc (.cells #[.int .i64 x] E)).cell? ⟨w.heap.size, 0 + j, none⟩ = some (.int .i64 ([x].getD j 0)) := by
  intro j hj
  rw [Nat.zero_add, cell_new]
  match j, hj with
  | 0, _ => rfl
  | j + 1, h => simp at h
theorem tok_2 {c : UInt8} {r : List UInt8} (h : cls c = 2) : tokL (c :: r) = some (wrdT ((c :: r).takeWhile inn), (c :: r).dropWhile inn) := by rw [tokL, if_pos h]
theorem tok_3 {c : UInt8} {r : List UInt8} (h : cls c = 3) : tokL (c :: r) = (numT ((c :: r).takeWhile dig)).map fun t => (t, (c :: r).dropWhile dig) := by rw [tokL, if_neg (by omega), if_pos h]
theorem tok_5 {c : UInt8} {r : List UInt8} (h : cls c = 5) : tokL (c :: r) = (quoF false r).map fun p => (strT p.1, p.2) := by rw [tokL, if_neg (by omega), if_neg (by omega), if_pos h]
theorem tok_6 {c : UInt8} {r : List UInt8} (h : cls c = 6) : tokL (c :: r) = if r.takeWhile dig = [] then some (sgnT [c], r) else (numT (c :: r.takeWhile dig)).map fun t => (t, r.dropWhile dig) := by rw [tokL, if_neg (by omega), if_neg (by omega), if_neg (by omega), if_pos h]
theorem tok_7 {c : UInt8} {r : List UInt8} (h : cls c = 7) : tokL (c :: r) = some (sgnT [c], r) := by rw [tokL, if_neg (by omega), if_neg (by omega), if_neg (by omega), if_neg (by omega), if_pos h]
theorem tok_0 {c : UInt8} {r : List UInt8} (h2 : cls c ≠ 2) (h3 : cls c ≠ 3) (h5 : cls c ≠ 5) (h6 : cls c ≠ 6) (h7 : cls c ≠ 7) : tokL (c :: r) = none := by rw [tokL, if_neg h2, if_neg h3, if_neg h5, if_neg h6, if_neg h7]
set_option maxHeartbeats 4000000 in
theorem token_c (b : Nat) (c : UInt8) (r : List UInt8) (w : World) (hR : Rd w b (c :: r)) (hl : r.length ≤ 50000) (hG : GL w) (hGb : GLt b) :
    Calls Tryz.prog 76 #[.pointer (some ⟨b, 0, none⟩)] w fun e w' => ∃ v q, e = .returned v ∧ OutT (tokL (c :: r)) v q ∧ Stp w w' b q := by
  obtain ⟨Out, hOut⟩ : ∃ Out : Value → List UInt8 → Prop, OutT (tokL (c :: r)) = Out := ⟨_, rfl⟩
  rw [hOut]
  have HO := Lib.hid hOut
  have hbw := hR.lt
  have HR := Lib.hid hR
  have HG := Lib.hid hG
  have Hg : Hid ((ba (c :: r))[0]'(by show 0 < (c :: r).toArray.size; simp) = c) := rfl
  have r0 := hR.cell
  clear hR hOut hG
  go_enter Tryz.func76, Tryz.ntmps76
  go_wp2_with fail
  refine (cls_c _ _).mono ?_
  rintro e w0 ⟨rfl, rfl⟩
  rw [Hg.out]
  have hS0 : Stp w (w.alloc tk0.obj) b (c :: r) := (Stp.refl HR.out).alloc _
  have HS0 := Lib.hid hS0
  have HB0 := Lib.hid (Bt.new w tk0)
  have HG0 := Lib.hid (HG.out.after (below_one w tk0.obj))
  clear hS0 Hg r0
  obtain ⟨W, hW⟩ : ∃ W, w.alloc (.cells #[.int .i64 0, .string ⟨#[]⟩, .int .i64 0, .int .i64 0, .string ⟨#[]⟩] 129) = W := ⟨_, rfl⟩
  have hWs : w.heap.size < W.heap.size := by rw [← hW]; simp
  have hW2 : w.alloc tk0.obj = W := hW
  rw [hW]
  rw [hW2] at HS0 HB0 HG0
  clear hW hW2
  by_cases h2 : cls c = 2
  · rw [h2]
    go_wp2_with fail
    refine (word_c b (c :: r) W HS0.out.rd (by simp; omega)).mono ?_
    rintro e w1 ⟨rfl, hS1⟩
    have HB1 := Lib.hid (hS1.bt HB0.out (by omega))
    have HS1 := Lib.hid (HS0.out.trans hS1)
    obtain ⟨c0, c1, c2, c3, c4, f0, f1, f2, f3, f4, hlt⟩ := HB1.out.all
    have Ht := Lib.hid (tok_2 (r := r) h2)
    clear hS1 h2
    obtain ⟨T, hT⟩ : ∃ T, (c :: r).takeWhile inn = T := ⟨_, rfl⟩
    rw [hT] at Ht ⊢
    clear hT
    go_wp2
    refine ret_tok (a := wrdT T) (z := .bool true) Tryz.results76 rfl rfl (HB1.out.put (wrdT T)) rfl ⟨_, _, rfl, ?_, HS1.out.put (Nat.le_refl _) (by omega) (wrdT T)⟩
    rw [← HO.out, Ht.out]
    exact ⟨rfl, rfl⟩
  by_cases h3 : cls c = 3
  · rw [h3]
    go_wp2_with fail
    refine (run_c b _ _ _ [3] (c :: r) _ (HS0.out.rd.alloc _) rfl (by decide) (run1_cells W 3 _) (by simp; omega)).mono ?_
    rintro e w1 ⟨rfl, hw1⟩
    have hS1 : Stp W w1 b ((c :: r).dropWhile dig) := by rw [hw1]; exact ((Stp.refl HS0.out.rd).alloc _).set _
    have HB1 := Lib.hid (hS1.bt HB0.out (by omega))
    have HS1 := Lib.hid (HS0.out.trans hS1)
    have HG1 := Lib.hid (HG0.out.stp hS1 HS0.out.rd hGb)
    have Ht := Lib.hid (tok_3 (r := r) h3)
    have hT5 : ((c :: r).takeWhile dig).length ≤ 1000000 := Nat.le_trans (tw_le dig (c :: r)) (by simp; omega)
    clear hS1 hw1 h2 h3
    obtain ⟨T, hT⟩ : ∃ T, (c :: r).takeWhile dig = T := ⟨_, rfl⟩
    have eT : (c :: r).takeWhile (isIn [3]) = T := hT
    rw [hT] at Ht hT5
    rw [eT]
    clear hT eT
    go_wp2_with fail
    refine (number_c T w1 hT5 HG1.out).mono ?_
    rintro e w2 ⟨rfl, hb2⟩
    have HB2 := Lib.hid (HB1.out.after hb2)
    have HS2 := Lib.hid (HS1.out.then hb2)
    obtain ⟨c0, c1, c2, c3, c4, f0, f1, f2, f3, f4, hlt⟩ := HB2.out.all
    clear hb2 HB1 HS1 HG1
    cases hN : numT T with
    | none =>
      have eN : numV T = .tuple #[tk0.val, .bool false] := by unfold numV; rw [hN]
      rw [eN]
      have HN := Lib.hid hN
      clear hN eN
      go_wp2
      refine ret_tok (a := tk0) (z := .bool false) Tryz.results76 rfl rfl (HB2.out.put tk0) rfl ⟨_, _, rfl, ?_, HS2.out.put (Nat.le_refl _) (by omega) tk0⟩
      rw [← HO.out, Ht.out, HN.out]
      rfl
    | some t =>
      have eN : numV T = .tuple #[t.val, .bool true] := by unfold numV; rw [hN]
      rw [eN]
      have HN := Lib.hid hN
      clear hN eN
      go_wp2
      refine ret_tok (a := t) (z := .bool true) Tryz.results76 rfl rfl (HB2.out.put t) rfl ⟨_, _, rfl, ?_, HS2.out.put (Nat.le_refl _) (by omega) t⟩
      rw [← HO.out, Ht.out, HN.out]
      exact ⟨rfl, rfl⟩
  by_cases h5 : cls c = 5
  · rw [h5]
    have hc39 : c = 39 := by have := byte_of (cls_5.1 h5); simpa using this
    have hrd : Rd W b (39 :: r) := by have := HS0.out.rd; rwa [hc39] at this
    have Hrd := Lib.hid hrd
    have Ht := Lib.hid (tok_5 (r := r) h5)
    clear h2 h3 h5 hrd hc39
    go_wp2_with fail
    refine (quo_c b r W Hrd.out (by omega)).mono ?_
    rintro e w1 ⟨v, q, rfl, hO, hS1⟩
    have HB1 := Lib.hid (hS1.bt HB0.out (by omega))
    have HS1 := Lib.hid (HS0.out.trans hS1)
    obtain ⟨c0, c1, c2, c3, c4, f0, f1, f2, f3, f4, hlt⟩ := HB1.out.all
    clear hS1
    rw [← Ht.out] at hO
    cases hN : tokL (c :: r) with
    | none =>
      rw [hN] at hO
      have hv : v = .tuple #[tk0.val, .bool false] := hO
      subst hv
      have HN := Lib.hid hN
      clear hN hO
      go_wp2
      refine ret_tok (a := tk0) (z := .bool false) Tryz.results76 rfl rfl (HB1.out.put tk0) rfl ⟨_, q, rfl, ?_, HS1.out.put (Nat.le_refl _) (by omega) tk0⟩
      rw [← HO.out, HN.out]
      rfl
    | some p =>
      rw [hN] at hO
      obtain ⟨hv, hq⟩ := hO
      subst hv hq
      have HN := Lib.hid hN
      obtain ⟨t, q⟩ := p
      clear hN
      go_wp2
      refine ret_tok (a := t) (z := .bool true) Tryz.results76 rfl rfl (HB1.out.put t) rfl ⟨_, q, rfl, ?_, HS1.out.put (Nat.le_refl _) (by omega) t⟩
      rw [← HO.out, HN.out]
      exact ⟨rfl, rfl⟩
  by_cases h6 : cls c = 6
  · rw [h6]
    have Ht := Lib.hid (tok_6 (r := r) h6)
    clear h2 h3 h5 h6
    go_wp2_with fail
    refine (take_c b 1 (c :: r) W HS0.out.rd (by simp) (by simp; omega)).mono ?_
    rintro e w1 ⟨rfl, hw1⟩
    have hS1 : Stp W w1 b r := by rw [hw1]; exact (Stp.refl HS0.out.rd).set r
    have HB1 := Lib.hid (hS1.bt HB0.out (by omega))
    have HS1 := Lib.hid (HS0.out.trans hS1)
    have HG1 := Lib.hid (HG0.out.stp hS1 HS0.out.rd hGb)
    have eT : (c :: r).take 1 = [c] := rfl
    rw [eT]
    clear hS1 hw1 HB0 HG0 eT
    go_wp2_with fail
    refine (run_c b _ _ _ [3] r _ (HS1.out.rd.alloc _) rfl (by decide) (run1_cells w1 3 _) (by omega)).mono ?_
    rintro e w2 ⟨rfl, hw2⟩
    have hS2 : Stp w1 w2 b (r.dropWhile dig) := by rw [hw2]; exact ((Stp.refl HS1.out.rd).alloc _).set _
    have HB2 := Lib.hid (hS2.bt HB1.out (by omega))
    have HS2 := Lib.hid (HS1.out.trans hS2)
    have HG2 := Lib.hid (HG1.out.stp hS2 HS1.out.rd hGb)
    have hT5 : (r.takeWhile dig).length ≤ 100000 := Nat.le_trans (tw_le dig r) (by omega)
    have hTD := List.takeWhile_append_dropWhile (p := dig) (l := r)
    clear hS2 hw2 HB1 HG1 HS1
    obtain ⟨T, hT⟩ : ∃ T, r.takeWhile dig = T := ⟨_, rfl⟩
    have eT : r.takeWhile (isIn [3]) = T := hT
    rw [hT] at Ht hT5 hTD
    rw [eT]
    clear hT eT
    have HTD := Lib.hid hTD
    clear hTD
    cases T with
    | nil =>
      have hD : r.dropWhile dig = r := HTD.out
      rw [hD] at HS2
      obtain ⟨c0, c1, c2, c3, c4, f0, f1, f2, f3, f4, hlt⟩ := HB2.out.all
      clear hD HTD
      go_wp2
      refine ret_tok (a := sgnT [c]) (z := .bool true) Tryz.results76 rfl rfl (HB2.out.put (sgnT [c])) rfl ⟨_, r, rfl, ?_, HS2.out.put (Nat.le_refl _) (by omega) (sgnT [c])⟩
      rw [← HO.out, Ht.out]
      first | rw [if_pos rfl] | rw [if_pos trivial]
      exact ⟨rfl, rfl⟩
    | cons d T =>
      have ecat : ∀ w, (Op.stringOp .add (ba [c]) (ba (d :: T))).run Tryz.prog w = .ok (.string (ba (c :: d :: T))) w := fun w => cat_run w [c] (d :: T) (by simp only [List.length_cons, List.length_nil] at hT5 ⊢; omega)
      have hl2 : (c :: d :: T).length ≤ 1000000 := by simp only [List.length_cons] at hT5 ⊢; omega
      clear HTD hT5
      have Hl2 := Lib.hid hl2
      clear hl2
      go_wp2_with fail
      refine (number_c (c :: d :: T) w2 Hl2.out HG2.out).mono ?_
      rintro e w3 ⟨rfl, hb3⟩
      have HB3 := Lib.hid (HB2.out.after hb3)
      have HS3 := Lib.hid (HS2.out.then hb3)
      obtain ⟨c0, c1, c2, c3, c4, f0, f1, f2, f3, f4, hlt⟩ := HB3.out.all
      clear hb3 HB2 HS2 HG2 ecat
      cases hN : numT (c :: d :: T) with
      | none =>
        have eN : numV (c :: d :: T) = .tuple #[tk0.val, .bool false] := by unfold numV; rw [hN]
        rw [eN]
        have HN := Lib.hid hN
        clear hN eN
        go_wp2
        refine ret_tok (a := tk0) (z := .bool false) Tryz.results76 rfl rfl (HB3.out.put tk0) rfl ⟨_, _, rfl, ?_, HS3.out.put (Nat.le_refl _) (by omega) tk0⟩
        rw [← HO.out, Ht.out, if_neg (by simp), HN.out]
        rfl
      | some t =>
        have eN : numV (c :: d :: T) = .tuple #[t.val, .bool true] := by unfold numV; rw [hN]
        rw [eN]
        have HN := Lib.hid hN
        clear hN eN
        go_wp2
        refine ret_tok (a := t) (z := .bool true) Tryz.results76 rfl rfl (HB3.out.put t) rfl ⟨_, _, rfl, ?_, HS3.out.put (Nat.le_refl _) (by omega) t⟩
        rw [← HO.out, Ht.out, if_neg (by simp), HN.out]
        exact ⟨rfl, rfl⟩
  by_cases h7 : cls c = 7
  · rw [h7]
    have Ht := Lib.hid (tok_7 (r := r) h7)
    clear h2 h3 h5 h6 h7
    go_wp2_with fail
    refine (take_c b 1 (c :: r) W HS0.out.rd (by simp) (by simp; omega)).mono ?_
    rintro e w1 ⟨rfl, hw1⟩
    have hS1 : Stp W w1 b r := by rw [hw1]; exact (Stp.refl HS0.out.rd).set r
    have HB1 := Lib.hid (hS1.bt HB0.out (by omega))
    have HS1 := Lib.hid (HS0.out.trans hS1)
    have eT : (c :: r).take 1 = [c] := rfl
    rw [eT]
    obtain ⟨c0, c1, c2, c3, c4, f0, f1, f2, f3, f4, hlt⟩ := HB1.out.all
    clear hS1 hw1 HB0 HG0 eT
    go_wp2
    refine ret_tok (a := sgnT [c]) (z := .bool true) Tryz.results76 rfl rfl (HB1.out.put (sgnT [c])) rfl ⟨_, r, rfl, ?_, HS1.out.put (Nat.le_refl _) (by omega) (sgnT [c])⟩
    rw [← HO.out, Ht.out]
    exact ⟨rfl, rfl⟩
  · have Ht := Lib.hid (tok_0 (r := r) h2 h3 h5 h6 h7)
    have e2 : (cls c == 2) = false := by simpa using h2
    have e3 : (cls c == 3) = false := by simpa using h3
    have e5 : (cls c == 5) = false := by simpa using h5
    have e6 : (cls c == 6) = false := by simpa using h6
    have e7 : (cls c == 7) = false := by simpa using h7
    clear h2 h3 h5 h6 h7
    obtain ⟨c0, c1, c2, c3, c4, f0, f1, f2, f3, f4, hlt⟩ := HB0.out.all
    generalize cls c = cx at e2 e3 e5 e6 e7 ⊢
    go_wp2
    refine ret_tok (a := tk0) (z := .bool false) Tryz.results76 rfl rfl (HB0.out.put tk0) rfl ⟨_, _, rfl, ?_, HS0.out.put (Nat.le_refl _) (by omega) tk0⟩
    rw [← HO.out, Ht.out]
    rfl
end Go.Proofs.YtjgpmnffagdhlaaGreatDoor
namespace Go.Proofs.YtjgpmnffagdhlaaGreatDoor
open Go Go.RowKit
set_option maxRecDepth 100000
theorem all_drop (p : UInt8 → Bool) : ∀ l : List UInt8, l.all p = (l.dropWhile p).isEmpty
  | [] => rfl
  | c :: l => by
    rw [List.all_cons, List.dropWhile_cons]
    cases p c
    · rfl
    · simp only [Bool.true_and, if_true]
      exact all_drop p l
theorem Rd.new (w : World) (l : List UInt8) : Rd (w.alloc (.cells #[.string (ba l)] 126)) w.heap.size l := by
  show (w.heap.push _)[w.heap.size]? = _
  simp
set_option maxHeartbeats 1000000 in
theorem isWord_c (l : List UInt8) (w : World) (hl : l.length ≤ maxLen) : Calls Tryz.prog 114 #[.string (ba l)] w fun e w' => e = .returned (.bool (wordB l)) ∧ Below w.heap.size w w' := by
  unfold maxLen at hl
  cases l with
  | nil =>
    go_enter Tryz.func114, Tryz.ntmps114
    go_wp2
    go_ret
    exact ⟨rfl, Below.refl _ _⟩
  | cons c r =>
    have Hg : Hid ((ba (c :: r))[0]'(by show 0 < (c :: r).toArray.size; simp) = c) := rfl
    obtain ⟨R, hR⟩ : ∃ R, wordB (c :: r) = R := ⟨_, rfl⟩
    rw [hR]
    have HR : Hid ((decide ((c :: r).length ≤ 30) && (decide (cls c = 2) && (c :: r).all inn)) = R) := hR
    clear hR
    by_cases h30 : (c :: r).length ≤ 30
    · have hd := decide_eq_true h30
      have h31 : r.length + 1 ≤ 30 := by simpa using h30
      have H30 := Lib.hid h30
      go_enter Tryz.func114, Tryz.ntmps114
      go_wp2_with fail
      refine (cls_c _ _).mono ?_
      rintro e w0 ⟨rfl, rfl⟩
      rw [Hg.out]
      by_cases h2 : cls c = 2
      · rw [h2]
        have H2 := Lib.hid h2
        clear h2 hd h30 Hg
        go_wp2_with fail
        refine (word_c _ (c :: r) _ (Rd.new _ _) (by have := H30.out; omega)).mono ?_
        rintro e w1 ⟨rfl, hS⟩
        have r0 := hS.rd.cell
        have hlt := hS.rd.lt
        have Hb : Hid (Below w0.heap.size w0 w1) := (below_one w0 _).trans (hS.below (Nat.le_refl _) (by simp))
        have hall := all_drop inn (c :: r)
        have hR := HR.out
        rw [hall, decide_eq_true H30.out, decide_eq_true H2.out] at hR
        simp only [Bool.true_and] at hR
        clear hall HR hS
        generalize (c :: r).takeWhile inn = T
        generalize (c :: r).dropWhile inn = D at r0 hR
        cases D with
        | nil =>
          subst hR
          go_wp2
          go_ret
          exact ⟨rfl, Hb.out⟩
        | cons x D =>
          subst hR
          go_wp2
          go_ret
          exact ⟨rfl, Hb.out⟩
      · have hne : (cls c == 2) = false := by simpa using h2
        have hne2 : (cls c != 2) = true := by simpa using h2
        have hR := HR.out
        rw [decide_eq_false h2, Bool.false_and, Bool.and_false] at hR
        subst hR
        clear HR h2 hd
        generalize cls c = cx at hne hne2 ⊢
        go_wp2
        go_ret
        exact ⟨rfl, Below.refl _ _⟩
    · have hR := HR.out
      rw [decide_eq_false h30, Bool.false_and] at hR
      subst hR
      have h31 : 30 < r.length + 1 := by simp only [List.length_cons] at h30; omega
      clear HR h30
      go_enter Tryz.func114, Tryz.ntmps114
      go_wp2
      go_ret
      exact ⟨rfl, Below.refl _ _⟩
set_option maxHeartbeats 1000000 in
theorem isSign_c (l : List UInt8) (w : World) (hl : l.length ≤ maxLen) : Calls Tryz.prog 115 #[.string (ba l)] w fun e w' => e = .returned (.bool (signB l)) ∧ Below w.heap.size w w' := by
  unfold maxLen at hl
  have other : ∀ l : List UInt8, l.length ≤ 9223372036854775807 → (l.length == 1) = false → Calls Tryz.prog 115 #[.string (ba l)] w fun e w' => e = .returned (.bool false) ∧ Below w.heap.size w w' := by
    intro l hl h1
    have h2 : ((l.length : Int) == 1) = false := by simp at h1 ⊢; omega
    go_enter Tryz.func115, Tryz.ntmps115
    go_wp2
    go_ret
    exact ⟨rfl, Below.refl _ _⟩
  match l, hl with
  | [], hl => exact other [] hl rfl
  | [c], hl =>
    obtain ⟨R, hR⟩ : ∃ R, signB [c] = R := ⟨_, rfl⟩
    rw [hR]
    have HR := Lib.hid hR
    clear hR other
    go_enter Tryz.func115, Tryz.ntmps115
    go_wp2_with fail
    refine (Tryz.strings_Contains_one _ c _).mono ?_
    rintro e w1 ⟨rfl, rfl⟩
    have e1 : decide (0 ≤ Lib.indexByte (⟨#[40, 41, 91, 93, 44, 61, 60, 43, 45, 42, 63]⟩ : ByteArray).data.toList c) = R := by
      rw [← HR.out]
      unfold signB
      have := indexByte_mem sgns c
      rw [decide_eq_decide]
      exact this
    rw [e1]
    clear e1 HR
    go_wp2
    go_ret
    exact ⟨rfl, Below.refl _ _⟩
  | c :: d :: r, hl => exact other (c :: d :: r) hl (by simp)
section
attribute [local go_sem ↓] run_eqV run_neV
set_option maxHeartbeats 1000000 in
theorem tmay_c0 (t : Tk) (w : World) (hl : t.t.size ≤ maxLen) (h0 : (t.k == 0) = true) : Calls Tryz.prog 77 #[t.val] w fun e w' => e = .returned (.bool (wordB t.t.data.toList && t.v.eq nl)) ∧ Below w.heap.size w w' := by
  obtain ⟨R, hR⟩ : ∃ R, (wordB t.t.data.toList && t.v.eq nl) = R := ⟨_, rfl⟩
  rw [hR]
  have HR := Lib.hid hR
  clear hR
  obtain ⟨k, s, v⟩ := t
  obtain ⟨vk, vn, vs⟩ := v
  simp only at *
  have Hw := Lib.hid (isWord_c s.data.toList (w.alloc (⟨k, s, vk, vn, vs⟩ : Tk).obj) hl)
  rw [ba_of] at Hw
  have HB := Lib.hid (Bt.new w ⟨k, s, ⟨vk, vn, vs⟩⟩)
  clear hl
  go_enter Tryz.func77, Tryz.ntmps77
  go_wp2_with fail
  refine Hw.out.mono ?_
  rintro e w1 ⟨rfl, hb⟩
  obtain ⟨c0, c1, c2, c3, c4, f0, f1, f2, f3, f4, hlt⟩ := (HB.out.after hb).all
  have Hb := Lib.hid ((below_one w _).trans (hb.mono (by simp)))
  clear hb Hw HB
  have hR := HR.out
  clear HR
  cases hW : wordB s.data.toList
  all_goals
    rw [hW] at hR
    have HR := Lib.hid hR
    clear hR
    go_wp2
    go_ret
    refine ⟨?_, Hb.out⟩
    rw [← HR.out]
    rfl
set_option maxHeartbeats 1000000 in
theorem tmay_c2 (t : Tk) (w : World) (hl : t.t.size ≤ maxLen) (h0 : (t.k == 0) = false) (h1 : (t.k == 1) = false) (h2 : (t.k == 2) = true) : Calls Tryz.prog 77 #[t.val] w fun e w' => e = .returned (.bool (signB t.t.data.toList && t.v.eq nl)) ∧ Below w.heap.size w w' := by
  obtain ⟨R, hR⟩ : ∃ R, (signB t.t.data.toList && t.v.eq nl) = R := ⟨_, rfl⟩
  rw [hR]
  have HR := Lib.hid hR
  clear hR
  obtain ⟨k, s, v⟩ := t
  obtain ⟨vk, vn, vs⟩ := v
  simp only at *
  have Hw := Lib.hid (isSign_c s.data.toList (w.alloc (⟨k, s, vk, vn, vs⟩ : Tk).obj) hl)
  rw [ba_of] at Hw
  have HB := Lib.hid (Bt.new w ⟨k, s, ⟨vk, vn, vs⟩⟩)
  clear hl
  go_enter Tryz.func77, Tryz.ntmps77
  go_wp2_with fail
  refine Hw.out.mono ?_
  rintro e w1 ⟨rfl, hb⟩
  obtain ⟨c0, c1, c2, c3, c4, f0, f1, f2, f3, f4, hlt⟩ := (HB.out.after hb).all
  have Hb := Lib.hid ((below_one w _).trans (hb.mono (by simp)))
  clear hb Hw HB
  have hR := HR.out
  clear HR
  cases hW : signB s.data.toList
  all_goals
    rw [hW] at hR
    have HR := Lib.hid hR
    clear hR
    go_wp2
    go_ret
    refine ⟨?_, Hb.out⟩
    rw [← HR.out]
    rfl
end
set_option maxHeartbeats 1000000 in
theorem tmay_c1 (t : Tk) (w : World) (hs : t.v.s.size ≤ maxLen) (h0 : (t.k == 0) = false) (h1 : (t.k == 1) = true) : Calls Tryz.prog 77 #[t.val] w fun e w' => e = .returned (.bool (t.t.toList.isEmpty && ((t.v.k == 2 || t.v.k == 3) && mayB t.v))) ∧ Below w.heap.size w w' := by
  obtain ⟨R, hR⟩ : ∃ R, (t.t.toList.isEmpty && ((t.v.k == 2 || t.v.k == 3) && mayB t.v)) = R := ⟨_, rfl⟩
  rw [hR]
  obtain ⟨k, s, v⟩ := t
  obtain ⟨vk, vn, vs⟩ := v
  simp only at *
  have HB := Lib.hid (Bt.new w ⟨k, s, ⟨vk, vn, vs⟩⟩)
  have Hm := Lib.hid (may_c ⟨vk, vn, vs⟩ (w.alloc (⟨k, s, vk, vn, vs⟩ : Tk).obj) hs)
  have hbo : Below w.heap.size w (w.alloc (⟨k, s, vk, vn, vs⟩ : Tk).obj) := below_one w _
  have Hbo := Lib.hid hbo
  clear hs hbo
  cases he : s.toList.isEmpty
  · rw [he] at hR
    have HR := Lib.hid hR
    clear hR
    go_enter Tryz.func77, Tryz.ntmps77
    go_wp2
    go_ret
    exact ⟨by rw [← HR.out]; rfl, Hbo.out⟩
  · rw [he] at hR
    cases h2 : vk == 2
    · cases h3 : vk == 3
      · rw [h2, h3] at hR
        have HR := Lib.hid hR
        clear hR
        go_enter Tryz.func77, Tryz.ntmps77
        go_wp2
        go_ret
        exact ⟨by rw [← HR.out]; rfl, Hbo.out⟩
      · rw [h2, h3] at hR
        have HR := Lib.hid hR
        clear hR
        go_enter Tryz.func77, Tryz.ntmps77
        go_wp2_with fail
        refine Hm.out.mono ?_
        rintro e w1 ⟨rfl, hb⟩
        have Hb := Lib.hid (Hbo.out.trans (hb.mono (by simp)))
        have hR2 : mayB ⟨vk, vn, vs⟩ = R := HR.out
        rw [hR2]
        clear hb Hm HR hR2
        go_wp2
        go_ret
        exact ⟨rfl, Hb.out⟩
    · rw [h2] at hR
      have HR := Lib.hid hR
      clear hR
      go_enter Tryz.func77, Tryz.ntmps77
      go_wp2_with fail
      refine Hm.out.mono ?_
      rintro e w1 ⟨rfl, hb⟩
      have Hb := Lib.hid (Hbo.out.trans (hb.mono (by simp)))
      have hR2 : mayB ⟨vk, vn, vs⟩ = R := HR.out
      rw [hR2]
      clear hb Hm HR hR2
      go_wp2
      go_ret
      exact ⟨rfl, Hb.out⟩
set_option maxHeartbeats 1000000 in
theorem tmay_c3 (t : Tk) (w : World) (h0 : (t.k == 0) = false) (h1 : (t.k == 1) = false) (h2 : (t.k == 2) = false) : Calls Tryz.prog 77 #[t.val] w fun e w' => e = .returned (.bool false) ∧ Below w.heap.size w w' := by
  have hbo : Below w.heap.size w (w.alloc t.obj) := below_one w _
  have Hbo := Lib.hid hbo
  clear hbo
  go_enter Tryz.func77, Tryz.ntmps77
  go_wp2
  go_ret
  exact ⟨rfl, Hbo.out⟩
theorem tmay_c (t : Tk) (w : World) (hl : t.t.size ≤ maxLen) (hs : t.v.s.size ≤ maxLen) : Calls Tryz.prog 77 #[t.val] w fun e w' => e = .returned (.bool (mayT t)) ∧ Below w.heap.size w w' := by
  unfold mayT
  cases h0 : t.k == 0
  · cases h1 : t.k == 1
    · cases h2 : t.k == 2
      · exact tmay_c3 t w h0 h1 h2
      · exact tmay_c2 t w hl h0 h1 h2
    · exact tmay_c1 t w hs h0 h1
  · exact tmay_c0 t w hl h0
end Go.Proofs.YtjgpmnffagdhlaaGreatDoor
namespace Go.Proofs.YtjgpmnffagdhlaaGreatDoor
open Go Go.RowKit
set_option maxRecDepth 100000
/-- A token's cells in a list. -/
def rdT (t : Tk) : List Value := [.int .i64 t.k, .string t.t, .int .i64 t.v.k, .int .i64 t.v.n, .string t.v.s]
theorem tOk : ElOk Tryz.prog 82 129 5 56 tk0.val rdT where
  under := Tryz.underlying82
  info := by kernel_rfl
  zs := rfl
  pos := by decide
  len := fun _ => rfl
  one := fun x u hu => by
    simp [rdT] at hu
    rcases hu with rfl | rfl | rfl | rfl | rfl <;> rfl
/-- The tokens of a text, if it is not too long. -/
def lexO (l : List UInt8) : Option (List Tk) := if l.length ≤ 20000 then lexL l else none
/-- What Lex tells. -/
def LexS (o : Option (List Tk)) (v : Value) (n : Int) (B : Nat) (w : World) : Prop := match o with
  | none => v = .slice none 0 0 ∧ n = 60
  | some ts => n = 0 ∧ OwnG w B 129 5 rdT v ts ∧ ts.length ≤ 20000
theorem quo_len : ∀ (l : List UInt8) (b : Bool) (u r : List UInt8), quoF b l = some (u, r) → u.length ≤ l.length
  | [], false, u, r, h => by simp [quoF] at h
  | [], true, u, r, h => by simp [quoF] at h; simp [h.1]
  | c :: l, false, u, r, h => by
    rw [quoF] at h
    split at h
    · have := quo_len l true u r h; simp; omega
    · cases e : quoF false l with
      | none => rw [e] at h; cases h
      | some p =>
        rw [e] at h
        simp at h
        have := quo_len l false p.1 p.2 e
        rw [← h.1]; simp; omega
  | c :: l, true, u, r, h => by
    rw [quoF] at h
    split at h
    · cases e : quoF false l with
      | none => rw [e] at h; cases h
      | some p =>
        rw [e] at h
        simp at h
        have := quo_len l false p.1 p.2 e
        rw [← h.1]; simp; omega
    · simp at h; rw [h.1]; simp
theorem num_size {w : List UInt8} {t : Tk} (h : numT w = some t) : t.t.size = 0 ∧ t.v.s.size = 0 := by
  unfold numT at h
  split at h
  · split at h
    · simp only [Option.some.injEq] at h
      subst h
      exact ⟨rfl, rfl⟩
    · cases h
  · cases h
theorem ba_size (l : List UInt8) : (ba l).size = l.length := by show l.toArray.size = _; simp
theorem tok_size {l : List UInt8} {t : Tk} {r : List UInt8} (h : tokL l = some (t, r)) : t.t.size ≤ l.length ∧ t.v.s.size ≤ l.length := by
  cases l with
  | nil => cases h
  | cons c l =>
    rw [tokL] at h
    split at h
    · simp only [Option.some.injEq, Prod.mk.injEq] at h
      rw [← h.1]
      refine ⟨?_, Nat.zero_le _⟩
      show (ba _).size ≤ _
      rw [ba_size]
      exact tw_le inn (c :: l)
    split at h
    · cases e : numT ((c :: l).takeWhile dig) with
      | none => rw [e] at h; cases h
      | some q =>
        rw [e] at h
        simp only [Option.map_some, Option.some.injEq, Prod.mk.injEq] at h
        obtain ⟨h1, h2⟩ := num_size e
        rw [← h.1, h1, h2]; simp
    split at h
    · cases e : quoF false l with
      | none => rw [e] at h; cases h
      | some q =>
        rw [e] at h
        simp only [Option.map_some, Option.some.injEq, Prod.mk.injEq] at h
        rw [← h.1]
        refine ⟨Nat.zero_le _, ?_⟩
        show (ba _).size ≤ _
        rw [ba_size]
        have := quo_len l false q.1 q.2 e
        simp; omega
    split at h
    · split at h
      · simp only [Option.some.injEq, Prod.mk.injEq] at h
        rw [← h.1]
        refine ⟨?_, Nat.zero_le _⟩
        show 1 ≤ _
        simp
      · cases e : numT (c :: l.takeWhile dig) with
        | none => rw [e] at h; cases h
        | some q =>
          rw [e] at h
          simp only [Option.map_some, Option.some.injEq, Prod.mk.injEq] at h
          obtain ⟨h1, h2⟩ := num_size e
          rw [← h.1, h1, h2]; simp
    split at h
    · simp only [Option.some.injEq, Prod.mk.injEq] at h
      rw [← h.1]
      refine ⟨?_, Nat.zero_le _⟩
      show 1 ≤ _
      simp
    · cases h
/-- Where the reading of a text stands: the reader in block b has l left, behind blanks; ts has been read. -/
structure LI (w0 : World) (b : Nat) (l0 : List UInt8) (v : Value) (w : World) (l : List UInt8) (ts : List Tk) : Prop where
  rd : Rd w b l
  hd : l = [] ∨ ∃ c r, l = c :: r ∧ cls c ≠ 1
  own : OwnG w (b + 1) 129 5 rdT v ts
  lex : lexL l0 = (lexL l).map (ts ++ ·)
  gl : GL w
  blw : Below b w0 w
  len : ts.length + l.length ≤ 20000
theorem OwnG.stp {w w' : World} {b : Nat} {r : List UInt8} {v : Value} {ts : List Tk} (h : OwnG w (b + 1) 129 5 rdT v ts) (hs : Stp w w' b r) : OwnG w' (b + 1) 129 5 rdT v ts :=
  h.same fun k hk => hs.block k (h.lt k hk).2 (by have := (h.lt k hk).1; omega)
set_option maxHeartbeats 1000000 in
theorem lex_c (l : List UInt8) (w : World) (hl : l.length ≤ maxLen) (hG : GL w) :
    Calls Tryz.prog 49 #[.string (ba l)] w fun e w' => ∃ v n, e = .returned (.tuple #[v, .int .i64 n]) ∧ LexS (lexO l) v n w.heap.size w' ∧ Below w.heap.size w w' := by
  unfold maxLen at hl
  by_cases h2 : l.length ≤ 20000
  · have eO : lexO l = lexL l := by unfold lexO; rw [if_pos h2]
    rw [eO]
    obtain ⟨Out, hOut⟩ : ∃ Out : Value → Int → Nat → World → Prop, LexS (lexL l) = Out := ⟨_, rfl⟩
    rw [hOut]
    have HO := Lib.hid hOut
    have HG := Lib.hid hG
    have HGt := Lib.hid hG.lt
    clear hG eO hOut hl
    go_enter Tryz.func49, Tryz.ntmps49
    go_wp2_with fail
    have hR0 := Rd.new w l
    have HG1 := Lib.hid (HG.out.after (below_one w (.cells #[.string (ba l)] 126)))
    have HB1 := Lib.hid (below_one w (.cells #[.string (ba l)] 126))
    have HR := Lib.hid hR0
    have hsz : (w.alloc (.cells #[.string (ba l)] 126)).heap.size = w.heap.size + 1 := by simp
    obtain ⟨W, hW⟩ : ∃ W, w.alloc (.cells #[.string (ba l)] 126) = W := ⟨_, rfl⟩
    rw [hW] at HG1 HB1 HR hsz ⊢
    clear hW hR0
    refine (run_c w.heap.size (w.heap.size + 1) 1 1 [1] l _ (HR.out.alloc _) rfl (by decide) (by have := run1_cells W 1 3; rw [hsz] at this; exact this) (by omega)).mono ?_
    rintro e w1 ⟨rfl, hw1⟩
    have hS1 : Stp W w1 w.heap.size (l.dropWhile blk) := by rw [hw1]; exact ((Stp.refl HR.out).alloc _).set _
    have hI : LI w w.heap.size l (.slice none 0 0) w1 (l.dropWhile blk) [] := {
      rd := hS1.rd
      hd := drop_head l
      own := OwnG.nil _ _ _
      lex := by rw [lex_drop]; cases lexL l <;> rfl
      gl := HG1.out.stp hS1 HR.out HGt.out
      blw := HB1.out.trans (hS1.below (Nat.le_refl _) (by omega))
      len := by have := drop_le blk l; simp; omega }
    have HI := Lib.hid hI
    clear hS1 hw1 hI HG1 HB1 HR hsz
    go_wp2_with fail
    go_loopw [4] (fun v wr => ∃ l' ts, Hid (LI w w.heap.size l v wr l' ts)) (fun _ wr => rdLen wr w.heap.size)
    case atStart => exact ⟨_, _, HI⟩
    case round =>
      clear HI
      obtain ⟨l', ts, hI⟩ := hrel
      have r0 := hI.out.rd.cell
      have hlt := hI.out.rd.lt
      have hlen := hI.out.rd.len
      cases l' with
      | nil =>
        go_wp2
        go_ret2
        refine ⟨_, _, rfl, ?_, hI.out.blw⟩
        rw [← HO.out, hI.out.lex, lex_nil]
        have hown := hI.out.own.mono (B' := w.heap.size) (by omega)
        have hl9 := hI.out.len
        rw [← List.append_nil ts] at hown hl9
        exact ⟨rfl, hown, by omega⟩
      | cons c r =>
        have hlenL := hI.out.len
        simp only [List.length_cons] at hlenL
        have hcls : cls c ≠ 1 := by
          rcases hI.out.hd with h | ⟨c', r', h, hc⟩
          · cases h
          · simp only [List.cons.injEq] at h
            rw [h.1]; exact hc
        have hcut := lex_tok (r := r) hcls
        have HCut := Lib.hid hcut
        clear hcls hcut
        go_wp2_with fail
        refine (token_c w.heap.size c r wr hI.out.rd (by omega) hI.out.gl HGt.out).mono ?_
        rintro e w2 ⟨tv, q, rfl, hO2, hS2⟩
        have HS2 := Lib.hid hS2
        have HG2 := Lib.hid (hI.out.gl.stp hS2 hI.out.rd HGt.out)
        have HB2 := Lib.hid (hI.out.blw.trans (hS2.below (Nat.le_refl _) hlt))
        have HO2 := Lib.hid (hI.out.own.stp hS2)
        clear hS2 r0
        cases hT : tokL (c :: r) with
        | none =>
          rw [hT] at hO2
          have hv : tv = .tuple #[tk0.val, .bool false] := hO2
          subst hv
          have HT := Lib.hid hT
          clear hO2 hT
          go_wp2
          go_ret2
          refine ⟨_, _, rfl, ?_, HB2.out.alloc HB2.out.size _⟩
          rw [← HO.out, hI.out.lex, HCut.out, HT.out]
          exact ⟨rfl, rfl⟩
        | some p =>
          obtain ⟨t, q'⟩ := p
          have hsz := tok_size hT
          simp only [List.length_cons] at hsz
          have h64 := tok_64 hT
          have hq := tok_lt hT
          simp only [List.length_cons] at hq
          rw [hT] at hO2
          obtain ⟨hv, rfl⟩ : tv = .tuple #[t.val, .bool true] ∧ q = q' := hO2
          subst hv
          have HT := Lib.hid hT
          clear hT
          go_wp2_with fail
          refine (tmay_c t _ (by unfold maxLen; omega) (by unfold maxLen; omega)).mono ?_
          rintro e w3 ⟨rfl, hb3⟩
          have HB3 := Lib.hid (below_via (below_one w2 t.obj) hb3)
          have HR3 := Lib.hid (HS2.out.rd.after HB3.out)
          have HG3 := Lib.hid (HG2.out.after HB3.out)
          have HO3 := Lib.hid (HO2.out.after HB3.out)
          have HBw := Lib.hid (HB2.out.trans (HB3.out.mono HB2.out.size))
          have hbw3 := HBw.out.size
          have HT3 := Lib.hid ((Bt.new w2 t).after hb3)
          obtain ⟨c0, c1, c2, c3, c4, f0, f1, f2, f3, f4, hlt3⟩ := HT3.out.all
          clear hb3 HB3 HO2 HG2 HB2 HS2 HT3
          cases hM : mayT t
          · have HM := Lib.hid hM
            clear hM
            go_wp2
            go_ret2
            refine ⟨_, _, rfl, ?_, HBw.out⟩
            rw [← HO.out, hI.out.lex, HCut.out, HT.out]
            simp only [HM.out]
            exact ⟨rfl, rfl⟩
          · have HM := Lib.hid hM
            clear hM
            go_wp2_with (at_builtin; go_must (
              refine wpList_appG tOk rfl (.tmp 31) (.tmp 33) rfl (w.heap.size + 1) _ ts [t] (some ⟨w3.heap.size, 0, none⟩) 1 1 rfl (HO3.out.alloc _) rfl rfl (SlG.new tOk.len [t] rfl) (by simp [maxLen]; omega) (by simp; omega) (by simp; omega) ?_
              intro v4 w4 hv4 hg4
              have HO4 := Lib.hid hv4
              have hR4 : Rd w4 w.heap.size q := (hg4.block w.heap.size (by simp; omega) (fun e => by have := (HO3.out.lt _ e.symm).1; omega)).trans (HR3.out.alloc _)
              have HR4 := Lib.hid hR4
              have HB4 := Lib.hid ((HBw.out.alloc HBw.out.size _).grown hg4 (by simp; omega) (fun k hk => by have := (HO3.out.lt k hk).1; omega))
              clear hv4 hg4 hR4))
            refine (run_c w.heap.size w4.heap.size 1 1 [1] q _ (HR4.out.alloc _) rfl (by decide) (run1_cells w4 1 3) (by omega)).mono ?_
            rintro e w5 ⟨rfl, hw5⟩
            have hS5 : Stp w4 w5 w.heap.size (q.dropWhile blk) := by rw [hw5]; exact ((Stp.refl HR4.out).alloc _).set _
            have hb5 := HB4.out.trans (hS5.below (Nat.le_refl _) HR4.out.lt)
            have hI5 : LI w w.heap.size l v4 w5 (q.dropWhile blk) (ts ++ [t]) := {
              rd := hS5.rd
              hd := drop_head q
              own := OwnG.stp HO4.out hS5
              lex := by
                rw [lex_drop, hI.out.lex, HCut.out, HT.out]
                simp only [HM.out, if_true]
                cases lexL q with
                | none => rfl
                | some a => simp
              gl := HG.out.below hb5 HGt.out
              blw := hb5
              len := by have := drop_le blk q; simp; omega }
            have HI5 := Lib.hid hI5
            have hm : rdLen w5 w.heap.size < rdLen wr w.heap.size := by
              rw [hS5.rd.len, hlen]
              have := drop_le blk q
              simp only [List.length_cons]; omega
            clear hw5 hS5 hb5 hI5
            go_wp2_with fail
            go_roundw
            case rel => exact ⟨_, _, HI5⟩
            case measure => exact hm
  · have eO : lexO l = none := by unfold lexO; rw [if_neg h2]
    rw [eO]
    have h3 : 20000 < l.length := by omega
    go_enter Tryz.func49, Tryz.ntmps49
    go_wp2
    go_ret2
    exact ⟨_, _, rfl, ⟨rfl, rfl⟩, Below.refl _ _⟩
end Go.Proofs.YtjgpmnffagdhlaaGreatDoor
namespace Go.Proofs.YtjgpmnffagdhlaaGreatDoor
open Go Go.RowKit
set_option maxRecDepth 100000
/-- A failure that is on its way. -/
def boom (n : Int) : List PanicEntry := [{ v := .iface 91 (.agg #[.int .i64 n]), recovered := false }]
theorem req_yes (w : World) : Calls Tryz.prog 56 #[.bool true] w fun e w' => e = .returned (.tuple #[]) ∧ w' = w := by
  go_enter Tryz.func56, Tryz.ntmps56
  go_wp2
  go_end0
  exact ⟨rfl, rfl⟩
theorem req_no (w : World) : Calls Tryz.prog 56 #[.bool false] w fun e w' => e = .panicked (boom 70) ∧ w' = w := by
  go_enter Tryz.func56, Tryz.ntmps56
  go_wp2
  exact ⟨rfl, rfl, rfl⟩
/-- Block b holds these cells. -/
def Bk (w : World) (b : Nat) (cs : Array Value) (T : TypeId) : Prop := w.heap[b]? = some (.cells cs T (0, 0))
theorem Bk.lt {w : World} {b : Nat} {cs : Array Value} {T : TypeId} (h : Bk w b cs T) : b < w.heap.size := by
  rcases Nat.lt_or_ge b w.heap.size with hlt | hge
  · exact hlt
  · unfold Bk at h; rw [Array.getElem?_eq_none hge] at h; cases h
theorem Bk.cell {w : World} {b : Nat} {cs : Array Value} {T : TypeId} (h : Bk w b cs T) (j : Nat) : w.cell? ⟨b, j, none⟩ = cs[j]? := by unfold Bk at h; simp [World.cell?, h]
theorem Bk.thaw {w : World} {b : Nat} {cs : Array Value} {T : TypeId} (h : Bk w b cs T) (j : Nat) : w.frozen? ⟨b, j, none⟩ = false := by unfold Bk at h; simp [World.frozen?, h]
theorem Bk.after {w w' : World} {b B : Nat} {cs : Array Value} {T : TypeId} (h : Bk w b cs T) (hb : Below B w w') (hB : b < B) : Bk w' b cs T := (hb.block b hB).trans h
theorem Bk.drew {w : World} {b : Nat} {cs : Array Value} {T : TypeId} (h : Bk w b cs T) : Bk w.drew b cs T := h
theorem Bk.new (w : World) (cs : Array Value) (T : TypeId) : Bk (w.alloc (.cells cs T)) w.heap.size cs T := by
  show (w.heap.push _)[w.heap.size]? = _
  simp
theorem Bk.set {w : World} {b : Nat} {cs : Array Value} {T : TypeId} (h : Bk w b cs T) (j : Nat) (v : Value) : Bk (w.setCell ⟨b, j, none⟩ v) b (cs.setIfInBounds j v) T := by
  unfold Bk at *
  simp [World.setCell, Array.getElem?_modify, h]
/-- Cells written one behind the other. -/
def putL (w : World) (b : Nat) : Nat → List Value → World
  | _, [] => w
  | j, v :: vs => putL (w.setCell ⟨b, j, none⟩ v) b (j + 1) vs
theorem putL_size : ∀ (vs : List Value) (w : World) (b j : Nat), (putL w b j vs).heap.size = w.heap.size
  | [], _, _, _ => rfl
  | v :: vs, w, b, j => by rw [putL, putL_size vs]; simp [World.setCell]
theorem putL_heap : ∀ (vs : List Value) (w : World) (b j k : Nat), k ≠ b → (putL w b j vs).heap[k]? = w.heap[k]?
  | [], _, _, _, _, _ => rfl
  | v :: vs, w, b, j, k, h => by rw [putL, putL_heap vs _ _ _ _ h]; exact Below.heap_setCell _ _ _ _ h
theorem putL_io : ∀ (vs : List Value) (w : World) (b j : Nat), (putL w b j vs).os = w.os ∧ (putL w b j vs).tape = w.tape ∧ (putL w b j vs).output = w.output
  | [], _, _, _ => ⟨rfl, rfl, rfl⟩
  | v :: vs, w, b, j => by rw [putL]; exact putL_io vs _ b (j + 1)
theorem Bk.putF {T : TypeId} : ∀ (vs : List Value) (w : World) (b j : Nat) (cs : Array Value), Bk w b cs T → j + vs.length = cs.size → Bk (putL w b j vs) b (cs.toList.take j ++ vs).toArray T
  | [], w, b, j, cs, h, hn => by
    have e : (cs.toList.take j ++ []).toArray = cs := by
      rw [List.append_nil, List.take_of_length_le (by simp at hn ⊢; omega)]
    rw [e]; exact h
  | v :: vs, w, b, j, cs, h, hn => by
    simp only [List.length_cons] at hn
    have ih := Bk.putF vs _ b (j + 1) _ (h.set j v) (by simp; omega)
    rw [putL]
    have e : ((cs.setIfInBounds j v).toList.take (j + 1) ++ vs).toArray = (cs.toList.take j ++ v :: vs).toArray := by
      congr 1
      have : (cs.setIfInBounds j v).toList.take (j + 1) = cs.toList.take j ++ [v] := by
        rw [List.take_add_one, Array.toList_setIfInBounds, List.take_set_of_le (Nat.le_refl _), List.getElem?_set_self (by simp; omega)]
        rfl
      rw [this, List.append_assoc]
      rfl
    rw [← e]; exact ih
theorem Bk.put {w : World} {b : Nat} {cs : Array Value} {T : TypeId} (h : Bk w b cs T) (vs : List Value) (hn : vs.length = cs.size) : Bk (putL w b 0 vs) b vs.toArray T := by
  have := Bk.putF vs w b 0 cs h (by omega)
  simpa using this
/-- From w to w' nothing that was there has changed but block b. -/
structure Apb (b : Nat) (w w' : World) : Prop where
  os : w'.os = w.os
  tape : w'.tape = w.tape
  output : w'.output = w.output
  size : w.heap.size ≤ w'.heap.size
  other : ∀ k, k < w.heap.size → k ≠ b → w'.heap[k]? = w.heap[k]?
theorem Apb.refl (b : Nat) (w : World) : Apb b w w := ⟨rfl, rfl, rfl, Nat.le_refl _, fun _ _ _ => rfl⟩
theorem Apb.drew {b : Nat} {v w : World} (h : Apb b v w) : Apb b v w.drew := ⟨h.os, h.tape, h.output, h.size, h.other⟩
theorem Apb.trans {b : Nat} {u v w : World} (h : Apb b u v) (k : Apb b v w) : Apb b u w :=
  ⟨k.os.trans h.os, k.tape.trans h.tape, k.output.trans h.output, Nat.le_trans h.size k.size, fun i hi hb => (k.other i (Nat.lt_of_lt_of_le hi h.size) hb).trans (h.other i hi hb)⟩
theorem Apb.set {b : Nat} {v w : World} (h : Apb b v w) (j : Nat) (u : Value) : Apb b v (w.setCell ⟨b, j, none⟩ u) :=
  ⟨h.os, h.tape, h.output, by simpa [World.setCell] using h.size, fun k hk hb => by rw [← h.other k hk hb]; simp [World.setCell, Array.getElem?_modify, Ne.symm hb]⟩
theorem Apb.then {b B : Nat} {u v w : World} (h : Apb b u v) (k : Below B v w) (hB : u.heap.size ≤ B) : Apb b u w :=
  ⟨k.os.trans h.os, k.tape.trans h.tape, k.output.trans h.output, Nat.le_trans h.size k.size, fun i hi hb => (k.block i (Nat.lt_of_lt_of_le hi hB)).trans (h.other i hi hb)⟩
theorem Apb.alloc {b : Nat} {v w : World} (h : Apb b v w) (o : Obj) : Apb b v (w.alloc o) := h.then (below_one w o) h.size
/-- What is written into a block of the call's own. -/
theorem Apb.own {b c : Nat} {v w : World} (h : Apb b v w) (hc : v.heap.size ≤ c) (j : Nat) (u : Value) : Apb b v (w.setCell ⟨c, j, none⟩ u) :=
  ⟨h.os, h.tape, h.output, by simpa [World.setCell] using h.size, fun k hk hb => by rw [← h.other k hk hb]; exact Below.heap_setCell _ _ _ _ (show k ≠ c by omega)⟩
theorem Apb.put {b c : Nat} {v w : World} (h : Apb b v w) (hc : v.heap.size ≤ c) (j : Nat) (vs : List Value) : Apb b v (putL w c j vs) :=
  ⟨(putL_io vs w c j).1.trans h.os, (putL_io vs w c j).2.1.trans h.tape, (putL_io vs w c j).2.2.trans h.output, by rw [putL_size]; exact h.size, fun k hk hb => (putL_heap vs w c j k (by omega)).trans (h.other k hk hb)⟩
/-- A walk that began with a block of its own. -/
theorem Apb.of_alloc {b : Nat} {w w' : World} {o : Obj} (h : Apb b (w.alloc o) w') : Apb b w w' :=
  ⟨h.os, h.tape, h.output, by have := h.size; simp at this; omega, fun k hk hb => (h.other k (by simp; omega) hb).trans (Below.heap_alloc w o k hk)⟩
theorem Apb.below {b : Nat} {w w' : World} (h : Apb b w w') (hb : b < w.heap.size) : Below b w w' := ⟨h.os, h.tape, h.output, h.size, fun k hk => h.other k (Nat.lt_trans hk hb) (Nat.ne_of_lt hk)⟩
/-- What another block than b holds, it still does. -/
theorem Bk.kept {w w' : World} {b c : Nat} {cs : Array Value} {T : TypeId} (h : Bk w c cs T) (hb : Apb b w w') (hne : c ≠ b) : Bk w' c cs T := (hb.other c h.lt hne).trans h
theorem Apb.grown {b : Nat} {u v w : World} {row : Option Nat} (h : Apb b u v) (hg : v.grownBy w row) (hrow : ∀ k, row = some k → u.heap.size ≤ k) : Apb b u w := by
  have hs := h.size
  exact ⟨hg.os.trans h.os, hg.tape.trans h.tape, hg.output.trans h.output, Nat.le_trans hs hg.size, fun k hk hb => (hg.block k (by omega) (fun e => by have := hrow k e.symm; omega)).trans (h.other k hk hb)⟩
theorem OwnG.kept {α : Type} {rd : α → List Value} {S : Nat} {w w' : World} {B b : Nat} {E : TypeId} {v : Value} {xs : List α} (h : OwnG w B E S rd v xs) (hb : Apb b w w') (hB : b < B) : OwnG w' B E S rd v xs := h.same fun k hk => hb.other k (h.lt k hk).2 (by have := (h.lt k hk).1; omega)
theorem SlG.kept {α : Type} {rd : α → List Value} {S : Nat} {w w' : World} {A : Option Addr} {xs : List α} {b B : Nat} (h : SlG w A S rd xs) (hb : Apb b w w') (hA : ∀ k, A.map (·.block) = some k → k ≠ b) : SlG w' A S rd xs := by
  rcases h with h | ⟨c, off, hA', hlt, h⟩
  · exact .inl h
  · refine .inr ⟨c, off, hA', Nat.lt_of_lt_of_le hlt hb.size, fun i x hx j u hu => ?_⟩
    have e := hb.other c hlt (hA c (by rw [hA']; rfl))
    rw [← h i x hx j u hu]
    simp only [World.cell?, e]
end Go.Proofs.YtjgpmnffagdhlaaGreatDoor
namespace Go.Proofs.YtjgpmnffagdhlaaGreatDoor
open Go Go.RowKit
set_option maxRecDepth 100000
/-- The writer in block b has written l; its bytes lie at B or behind. -/
def WrP (p : Value) (w : World) (B b : Nat) (l : List UInt8) : Prop := B ≤ b ∧ ∃ v, Bk w b #[p, v] 97 ∧ Buf w B v l ∧ v.ownBlock ≠ some b
def Wr (w : World) (B b : Nat) (l : List UInt8) : Prop := WrP (.pointer none) w B b l ∨ WrP (.pointer (some ⟨b, 0, none⟩)) w B b l
/-- What a writer's call leaves as it was: all below B; and all that is not b and no row of bytes. -/
structure Wk (B b : Nat) (w w' : World) : Prop where
  below : Below B w w'
  other : Lib.OthersKept 5 (some b) w w'
theorem Wk.refl (B b : Nat) (w : World) : Wk B b w w := ⟨Below.refl B w, Lib.OthersKept.refl _ _ w⟩
theorem Wk.trans {B b : Nat} {u v w : World} (h : Wk B b u v) (k : Wk B b v w) : Wk B b u w := ⟨h.below.trans k.below, h.other.trans k.other⟩
theorem Wk.drew {B b : Nat} {v w : World} (h : Wk B b v w) : Wk B b v w.drew := ⟨h.below.drew, h.other.drew⟩
theorem Wk.bk {B b k : Nat} {v w : World} {cs : Array Value} {T : TypeId} (h : Wk B b v w) (hk : Bk v k cs T) (hb : k ≠ b) (hT : T ≠ 5) : Bk w k cs T :=
  h.other k _ hk (by simpa using hb) (fun c fz e => hT (by injection e))
theorem Wk.alloc {B b : Nat} {v w : World} (h : Wk B b v w) (hB : B ≤ w.heap.size) (o : Obj) : Wk B b v (w.alloc o) := ⟨h.below.alloc hB o, h.other.alloc o⟩
theorem WrP.lt {p : Value} {w : World} {B b : Nat} {l : List UInt8} (h : WrP p w B b l) : b < w.heap.size := h.2.elim fun _ h => h.1.lt
theorem Wr.lt {w : World} {B b : Nat} {l : List UInt8} (h : Wr w B b l) : b < w.heap.size := h.elim WrP.lt WrP.lt
theorem Wr.le {w : World} {B b : Nat} {l : List UInt8} (h : Wr w B b l) : B ≤ w.heap.size := by have := h.lt; rcases h with h | h <;> (have := h.1; omega)
theorem WrP.alloc {p : Value} {w : World} {B b : Nat} {l : List UInt8} (h : WrP p w B b l) (o : Obj) : WrP p (w.alloc o) B b l := by
  obtain ⟨hB, v, hb, hv, hne⟩ := h
  exact ⟨hB, v, hb.after (below_one w o) hb.lt, hv.alloc o, hne⟩
theorem Wr.alloc {w : World} {B b : Nat} {l : List UInt8} (h : Wr w B b l) (o : Obj) : Wr (w.alloc o) B b l := h.imp (·.alloc o) (·.alloc o)
theorem Wr.drew {w : World} {B b : Nat} {l : List UInt8} (h : Wr w B b l) : Wr w.drew B b l := h
theorem Wr.after {w w' : World} {B b : Nat} {l : List UInt8} (h : Wr w B b l) (hb : Below w.heap.size w w') : Wr w' B b l := by
  refine h.imp ?_ ?_ <;> (rintro ⟨hB, v, hk, hv, hne⟩; exact ⟨hB, v, hk.after hb hk.lt, hv.after hb, hne⟩)
theorem sizeSB : (Tryz.prog.info? 95).map (·.size) = some 2 := by kernel_rfl
theorem liesSB : liesAt Tryz.prog Tryz.prog.depth 97 (2 / Tryz.prog.cellsOf 97) 0 95 1 = true := by kernel_rfl
set_option maxHeartbeats 1000000 in
theorem wused_c (B b : Nat) (l : List UInt8) (w : World) (h : WrP (.pointer (some ⟨b, 0, none⟩)) w B b l) :
    Calls Tryz.prog 106 #[.pointer (some ⟨b, 0, none⟩)] w fun e w' => e = .returned (.tuple #[]) ∧ w' = w := by
  obtain ⟨j, hj, _⟩ := Option.map_eq_some_iff.1 sizeSB
  obtain ⟨hB, v, hk, hv, hne⟩ := h
  have c0 := hk.cell 0
  simp only [List.getElem?_toArray, List.getElem?_cons_zero] at c0
  clear hk hv hne
  go_enter Tryz.func106, Tryz.ntmps106
  go_wp2
  rw [Lib.run_neq_ptr_same w _ Tryz.underlying92 hj]
  go_wp2
  go_end0
  exact ⟨rfl, rfl⟩
set_option maxHeartbeats 1000000 in
theorem wfresh_c (B b : Nat) (l : List UInt8) (w : World) (h : WrP (.pointer none) w B b l) :
    Calls Tryz.prog 106 #[.pointer (some ⟨b, 0, none⟩)] w fun e w' => e = .returned (.tuple #[]) ∧ WrP (.pointer (some ⟨b, 0, none⟩)) w' B b l ∧ Wk B b w w' := by
  obtain ⟨j, hj, hjs⟩ := Option.map_eq_some_iff.1 sizeSB
  obtain ⟨hB, v, hk, hv, hne⟩ := h
  have c0 := hk.cell 0
  simp only [List.getElem?_toArray, List.getElem?_cons_zero] at c0
  have f0 := hk.thaw 0
  have hsh : w.shape? b = some (97, 2) := by unfold Bk at hk; simp [World.shape?, hk]
  have hpost : WrP (.pointer (some ⟨b, 0, none⟩)) (w.setCell ⟨b, 0, none⟩ (.pointer (some ⟨b, 0, none⟩))) B b l := by
    refine ⟨hB, v, hk.set 0 _, ?_, hne⟩
    obtain ⟨h1, h2⟩ := hv
    refine ⟨h1, ?_⟩
    rcases h2 with h2 | ⟨g, cap, cur, hvv, hBg, hh, h3⟩
    · exact .inl h2
    · refine .inr ⟨g, cap, cur, hvv, hBg, ?_, h3⟩
      rw [Below.heap_setCell _ _ _ _ (fun e => hne (by rw [hvv]; simpa [Value.ownBlock] using e))]
      exact hh
  have hkeep : Wk B b w (w.setCell ⟨b, 0, none⟩ (.pointer (some ⟨b, 0, none⟩))) := ⟨(Below.refl B w).setCell (p := ⟨b, 0, none⟩) hB _, (Lib.OthersKept.refl _ _ w).setCell ⟨b, 0, none⟩ rfl _⟩
  have HP := Lib.hid hpost
  have HK := Lib.hid hkeep
  clear hk hv hne hpost hkeep
  go_enter Tryz.func106, Tryz.ntmps106
  go_wp2
  rw [Lib.run_to_unsafe w ⟨b, 0, none⟩ Tryz.underlying92 Tryz.underlying180 hj (by rw [hjs]; decide) hsh (Nat.zero_lt_succ 1)]
  simp only [Result.andThen]
  rw [Oper.upon_value]
  go_wp2
  rw [run_callFunc_extern Tryz.func156 (by kernel_rfl) (by kernel_rfl) (by kernel_rfl) (e := Extern.AbiNoEscape.same) (by kernel_rfl)]
  rw [Lib.run_noEscape]
  simp only [Result.andThen]
  rw [Oper.upon_value]
  go_wp2
  rw [Lib.run_from_unsafe w ⟨b, 0, none⟩ Tryz.underlying180 Tryz.underlying92 hj hsh liesSB]
  simp only [Result.andThen]
  rw [Oper.upon_value]
  go_wp2
  go_end0
  exact ⟨rfl, HP.out, HK.out⟩
theorem wcheck_c (B b : Nat) (l : List UInt8) (w : World) (h : Wr w B b l) :
    Calls Tryz.prog 106 #[.pointer (some ⟨b, 0, none⟩)] w fun e w' => e = .returned (.tuple #[]) ∧ WrP (.pointer (some ⟨b, 0, none⟩)) w' B b l ∧ Wk B b w w' := by
  rcases h with h | h
  · exact wfresh_c B b l w h
  · refine (wused_c B b l w h).mono ?_
    rintro e w' ⟨rfl, rfl⟩
    exact ⟨rfl, h, Wk.refl B b _⟩
/-- A row of bytes put into the writer's block. -/
theorem WrP.put {p : Value} {w : World} {B b : Nat} {v v' : Value} {l : List UInt8} (hB : B ≤ b) (hk : Bk w b #[p, v] 97) (hv : Buf w B v' l) : WrP p (w.setCell ⟨b, 1, none⟩ v') B b l := by
  have hne : v'.ownBlock ≠ some b := by
    intro e
    rcases hv.2 with ⟨h0, _⟩ | ⟨g, cap, cur, hvv, hBg, hh, h3⟩
    · rw [h0] at e; simp [Value.ownBlock] at e
    · rw [hvv] at e
      have : g = b := by simpa [Value.ownBlock] using e
      subst this
      unfold Bk at hk
      rw [hk] at hh
      injection hh with hh
      injection hh with _ hh _
      exact absurd hh (by decide)
  refine ⟨hB, v', hk.set 1 _, ?_, hne⟩
  obtain ⟨h1, h2⟩ := hv
  refine ⟨h1, ?_⟩
  rcases h2 with h2 | ⟨g, cap, cur, hvv, hBg, hh, h3⟩
  · exact .inl h2
  · refine .inr ⟨g, cap, cur, hvv, hBg, ?_, h3⟩
    rw [Below.heap_setCell _ _ _ _ (fun e => hne (by rw [hvv]; simpa [Value.ownBlock] using e))]
    exact hh
theorem Buf.form {w : World} {B : Nat} {v : Value} {l : List UInt8} (h : Buf w B v l) : ∃ A c, v = .slice A l.length c := by
  rcases h.2 with ⟨hv, h0⟩ | ⟨g, cap, cur, hv, _⟩
  · exact ⟨none, 0, by rw [hv, h0]⟩
  · exact ⟨_, _, hv⟩
theorem Buf.rowKind {w : World} {B : Nat} {v : Value} {l : List UInt8} (h : Buf w B v l) : ∀ g, v.ownBlock = some g → ∃ c fz, w.heap[g]? = some (.cells c 5 fz) := by
  intro g hg
  rcases h.2 with ⟨h0, _⟩ | ⟨g', cap, cur, hvv, hBg, hh, h3⟩
  · rw [h0] at hg; simp [Value.ownBlock] at hg
  · rw [hvv] at hg
    have : g' = g := by simpa [Value.ownBlock] using hg
    subst this
    exact ⟨_, _, hh⟩
set_option maxHeartbeats 1000000 in
theorem wlen_c (B b : Nat) (l : List UInt8) (w : World) (h : Wr w B b l) :
    Calls Tryz.prog 163 #[.pointer (some ⟨b, 0, none⟩)] w fun e w' => e = .returned (.int .i64 l.length) ∧ w' = w := by
  obtain ⟨p, hB, v, hk, hv, hne⟩ : ∃ p, WrP p w B b l := h.elim (fun h => ⟨_, h⟩) (fun h => ⟨_, h⟩)
  obtain ⟨A, c, rfl⟩ := hv.form
  have c1 := hk.cell 1
  simp only [List.getElem?_toArray, List.getElem?_cons_succ, List.getElem?_cons_zero] at c1
  clear hk hv hne
  go_enter Tryz.func163, Tryz.ntmps163
  go_wp2
  go_ret
  exact ⟨rfl, rfl⟩
set_option maxHeartbeats 2000000 in
theorem wbyte_c (B b : Nat) (l : List UInt8) (x : UInt8) (w : World) (h : Wr w B b l) (hl : l.length ≤ 1000000) :
    Calls Tryz.prog 164 #[.pointer (some ⟨b, 0, none⟩), .int .u8 x.toNat] w fun e w' => e = .returned .nilIface ∧ Wr w' B b (l ++ [x]) ∧ Wk B b w w' := by
  have HS := Lib.hid (wcheck_c B b l w h)
  have hle := h.le
  clear h
  obtain ⟨c, hc⟩ : ∃ c : Int, (x.toNat : Int) = c := ⟨_, rfl⟩
  rw [hc]
  have Hc := Lib.hid hc
  clear hc
  go_enter Tryz.func164, Tryz.ntmps164
  go_wp2_with fail
  refine HS.out.mono ?_
  rintro e w1 ⟨rfl, ⟨hB, v, hk, hv, hne⟩, hw1⟩
  have c0 := hk.cell 0
  simp only [List.getElem?_toArray, List.getElem?_cons_zero] at c0
  have c1 := hk.cell 1
  simp only [List.getElem?_toArray, List.getElem?_cons_succ, List.getElem?_cons_zero] at c1
  have hlt := hk.lt
  have Hk := Lib.hid hk
  have Hv := Lib.hid hv
  have Hne := Lib.hid hne
  have Hw := Lib.hid hw1
  clear hk hv hne hw1 HS
  go_wp2_with (at_builtin; go_must (refine wpList_appB rfl (.tmp 11) (.tmp 13) rfl B v l x rfl Hv.out Hc.out.symm w1.heap.size rfl rfl hl (by have := Hw.out.below.size; omega) ?_; intro v1 w2 hv1 hg1; obtain ⟨A1, n1, cc1, hf⟩ : ∃ A n c, v1 = .slice A n c := (hv1.form.elim fun A h => h.elim fun c h => ⟨A, _, c, h⟩); subst hf; have Hv1 := Lib.hid hv1; have Hg1 := Lib.hid hg1; have hk2 : Bk w2 b #[.pointer (some ⟨b, 0, none⟩), v] 97 := (hg1.block b hlt (fun e => Hne.out e.symm)).trans Hk.out; have d1 := hk2.cell 1; simp only [List.getElem?_toArray, List.getElem?_cons_succ, List.getElem?_cons_zero] at d1; have f1 := hk2.thaw 1; have Hk2 := Lib.hid hk2; clear hk2 hv1 hg1))
  go_ret
  refine ⟨rfl, .inr (WrP.put hB Hk2.out Hv1.out), Hw.out.trans ⟨?_, ?_⟩⟩
  · exact ((Below.refl B w1).grown Hg1.out (by have := Hw.out.below.size; omega) (fun k hk => (Hv.out.lt k hk).1)).setCell (p := ⟨b, 1, none⟩) hB _
  · exact ((Lib.OthersKept.refl _ _ w1).grown Hg1.out Hv.out.rowKind).setCell ⟨b, 1, none⟩ rfl _
set_option maxHeartbeats 2000000 in
theorem wstr_c (B b : Nat) (l s : List UInt8) (w : World) (h : Wr w B b l) (hl : l.length + s.length ≤ 1000000) :
    Calls Tryz.prog 73 #[.pointer (some ⟨b, 0, none⟩), .string (ba s)] w fun e w' => e = .returned (.tuple #[.int .i64 s.length, .nilIface]) ∧ Wr w' B b (l ++ s) ∧ Wk B b w w' := by
  have HS := Lib.hid (wcheck_c B b l w h)
  have hle := h.le
  clear h
  have hsz : (ba s).size = s.length := rfl
  obtain ⟨t, ht⟩ : ∃ t, ba s = t := ⟨_, rfl⟩
  obtain ⟨m, hm⟩ : ∃ m, s.length = m := ⟨_, rfl⟩
  rw [ht, hm] at hsz
  rw [ht, hm]
  have hbnd : t.size ≤ 1000000 := by omega
  have Ht := Lib.hid ht
  have Hm := Lib.hid hm
  have Hsz := Lib.hid hsz
  have hl2 : l.length + t.size ≤ 1000000 := by omega
  have Hl := Lib.hid hl2
  subst hsz
  clear ht hm hl hl2
  go_enter Tryz.func73, Tryz.ntmps73
  go_wp2_with fail
  refine HS.out.mono ?_
  rintro e w1 ⟨rfl, ⟨hB, v, hk, hv, hne⟩, hw1⟩
  have c0 := hk.cell 0
  simp only [List.getElem?_toArray, List.getElem?_cons_zero] at c0
  have c1 := hk.cell 1
  simp only [List.getElem?_toArray, List.getElem?_cons_succ, List.getElem?_cons_zero] at c1
  have hlt := hk.lt
  have Hk := Lib.hid hk
  have Hv := Lib.hid hv
  have Hne := Lib.hid hne
  have Hw := Lib.hid hw1
  clear hk hv hne hw1 HS
  go_wp2_with (at_builtin; go_must (refine wpList_appS rfl (.tmp 12) (.tmp 13) rfl B v l t rfl Hv.out rfl Hl.out (by have := Hw.out.below.size; omega) ?_; intro v1 w2 hv1 hg1; obtain ⟨A1, n1, cc1, hf⟩ : ∃ A n c, v1 = .slice A n c := (hv1.form.elim fun A h => h.elim fun c h => ⟨A, _, c, h⟩); subst hf; have Hv1 := Lib.hid hv1; have Hg1 := Lib.hid hg1; have hk2 : Bk w2 b #[.pointer (some ⟨b, 0, none⟩), v] 97 := (hg1.block b hlt (fun e => Hne.out e.symm)).trans Hk.out; have d1 := hk2.cell 1; simp only [List.getElem?_toArray, List.getElem?_cons_succ, List.getElem?_cons_zero] at d1; have f1 := hk2.thaw 1; have Hk2 := Lib.hid hk2; clear hk2 hv1 hg1))
  go_ret2
  have Hv2 : Hid (Buf w2 B (.slice A1 n1 cc1) (l ++ s)) := by
    have := Hv1.out
    rw [← Ht.out] at this
    exact Lib.hid this
  refine ⟨rfl, .inr (WrP.put hB Hk2.out Hv2.out), Hw.out.trans ⟨?_, ?_⟩⟩
  · exact ((Below.refl B w1).grown Hg1.out (by have := Hw.out.below.size; omega) (fun k hk => (Hv.out.lt k hk).1)).setCell (p := ⟨b, 1, none⟩) hB _
  · exact ((Lib.OthersKept.refl _ _ w1).grown Hg1.out Hv.out.rowKind).setCell ⟨b, 1, none⟩ rfl _
end Go.Proofs.YtjgpmnffagdhlaaGreatDoor
