/-
  Bytes as a list of values: what the program's Decode answers, of any text that is not too long.
-/
import Derived.Test.YtkbgcgkblbbcbaaDoorCut
namespace Go.Proofs.YtkbgcgkblbbcbaaDoor
open Go Go.RowKit

/-- The slice v is the call's own, and reads as xs; it may be nil. -/
def OwnV (w : World) (B : Nat) (v : Value) (xs : List Val) : Prop := w.ownsRow B 32 3 v xs.length (cellsL xs)
theorem OwnV.nil (w : World) (B : Nat) : OwnV w B (.slice none 0 0) [] := World.ownsRow_nil w B _ 3
theorem OwnV.after {w w' : World} {B : Nat} {v : Value} {xs : List Val} (h : OwnV w B v xs) (hb : Below w.heap.size w w') : OwnV w' B v xs := by
  obtain ⟨h1, h2⟩ := h
  refine ⟨h1, ?_⟩
  rcases h2 with h2 | ⟨g', cap, cur, hv, hB, hh, h3⟩
  · exact .inl h2
  · have hlt : g' < w.heap.size := by
      rcases Nat.lt_or_ge g' w.heap.size with hlt | hge
      · exact hlt
      · rw [Array.getElem?_eq_none hge] at hh; cases hh
    exact .inr ⟨g', cap, cur, hv, hB, (hb.block g' hlt).trans hh, h3⟩
theorem OwnV.alloc {w : World} {B : Nat} {v : Value} {xs : List Val} (h : OwnV w B v xs) (o : Obj) : OwnV (w.alloc o) B v xs := h.after (below_one w o)
theorem OwnV.lt {w : World} {B : Nat} {v : Value} {xs : List Val} (h : OwnV w B v xs) : ∀ k, v.ownBlock = some k → B ≤ k ∧ k < w.heap.size := fun k hk => World.ownsRow.lt h k hk
theorem OwnV.sl {w : World} {B : Nat} {v : Value} {xs : List Val} (h : OwnV w B v xs) : ∃ A c, v = .slice A xs.length c ∧ Sl w A xs := by
  rcases h.2 with ⟨rfl, hn⟩ | ⟨g, cap, cur, rfl, _⟩
  · have : xs = [] := List.eq_nil_of_length_eq_zero hn
    subst this
    exact ⟨none, 0, rfl, .inl rfl⟩
  · refine ⟨_, cap, rfl, ?_⟩
    cases xs with
    | nil => exact .inl rfl
    | cons x l =>
      have key : ∀ j u, (cellsL (x :: l))[j]? = some u → w.cell? ⟨g, 0 + j, none⟩ = some u := fun j u hu => by
        have := World.ownsRow.cells (g := g) h rfl j u hu
        rwa [Go.WideShapes.add_plain] at this
      refine .inr ⟨g, 0, rfl, (h.lt g rfl).2, fun i a ha => ?_⟩
      obtain ⟨e0, e1, e2⟩ := cellsL_at _ i a ha
      exact ⟨key _ _ e0, by simpa [Nat.add_assoc] using key _ _ e1, by simpa [Nat.add_assoc] using key _ _ e2⟩
theorem valInfo : (Tryd.prog.info? 32).map (fun i => (i.zero, i.size, i.bytes)) = some (some nl.v, 3, 32) := by kernel_rfl

/-- append, of one value. -/
theorem wpList_appV {ops : Array Oper} {rest : List Oper} {o : Oper} {a : Act} {Q : Exit → Act → World → Prop} {w0 : World} (x : Val) (hgd : o.guard = none) (s y : Operand) (ho : o.op = .call { callee := .builtin .append, args := #[s, y], argTypes := #[22, 22] })
    (B : Nat) (v : Value) (xs : List Val) (hs : a.eval s = v) (hb : OwnV w0 B v xs) (g : Nat) (hx : a.eval y = .slice (some ⟨g, 0, none⟩) 1 1) (hg : g = w0.heap.size)
    (hmax : xs.length ≤ 1000000) (hB : B ≤ w0.heap.size)
    (h : ∀ v' w', OwnV w' B v' (xs ++ [x]) → w0.grownBy w' v.ownBlock → wpList Tryd.prog ops Q rest (a.put o.dst v') w') : wpList Tryd.prog ops Q (o :: rest) a (w0.alloc (.cells #[.int .i64 x.k, .int .i64 x.n, .string x.s] 32)) := by
  obtain ⟨i0, hi, hz0, hz1, hz2⟩ := info_parts valInfo
  subst hg
  have hal := hb.alloc (.cells #[.int .i64 x.k, .int .i64 x.n, .string x.s] 32)
  have bx := Bx.new w0 x
  have hcells : ∀ j u, (cellsL [x])[j]? = some u → (w0.alloc (.cells #[.int .i64 x.k, .int .i64 x.n, .string x.s] 32)).cell? ((⟨w0.heap.size, 0, none⟩ : Addr).add j) = some u := by
    intro j u hj
    rw [Go.WideShapes.add_plain]
    match j, hj with
    | 0, hj => simp [cellsL] at hj; subst hj; exact bx.cell0
    | 1, hj => simp [cellsL] at hj; subst hj; exact bx.cell1
    | 2, hj => simp [cellsL] at hj; subst hj; exact bx.cell2
    | j + 3, hj => simp [cellsL] at hj
  refine wpList_append_own_at _ hgd s y 22 ho B 32 i0 nl.v 3 32 Tryd.underlying22 hi hz0 hz1 hz2 (by decide) (by decide) v xs.length (cellsL xs) hs hal ⟨w0.heap.size, 0, none⟩ 1 1 (cellsL [x]) hx rfl hcells (cellsL_one [x]) (by unfold maxLen; omega) (by omega) (by simp; omega) ?_
  intro v' w' hown' hgrow _ _
  refine h v' w' ?_ ((World.grownBy_alloc w0 _ _).trans hgrow)
  unfold OwnV
  rw [cellsL_append, List.length_append]
  exact hown'

/-- What the bytes are, with so much to go. -/
def decF : Nat → List UInt8 → Option (List Val)
  | _, [] => some []
  | 0, _ :: _ => none
  | f + 1, t :: l => match cut1 (t :: l) with
    | none => none
    | some (x, r) => (decF f r).map (x :: ·)
theorem cutT_less : ∀ (n : Nat) (l t r : List UInt8), l.length ≤ n → cutT l = some (t, r) → t.length + r.length + 2 ≤ l.length := by
  intro n
  induction n with
  | zero =>
    intro l t r hl h
    have : l = [] := List.eq_nil_of_length_eq_zero (by omega)
    subst this
    simp [cutT] at h
  | succ n ih =>
    intro l t r hl h
    match l, hl, h with
    | [], _, h => simp [cutT] at h
    | [_], _, h => simp [cutT] at h
    | b :: c :: q, hl, h =>
      rw [cutT] at h
      split at h
      · cases hc : cutT (c :: q) with
        | none => rw [hc] at h; cases h
        | some p =>
          obtain ⟨t', r'⟩ := p
          rw [hc] at h
          simp at h
          have := ih (c :: q) t' r' (by simpa using hl) hc
          rw [← h.1, ← h.2]
          simp only [List.length_cons] at this ⊢
          omega
      · split at h
        · cases hc : cutT q with
          | none => rw [hc] at h; cases h
          | some p =>
            obtain ⟨t', r'⟩ := p
            rw [hc] at h
            simp at h
            have := ih q t' r' (by simp only [List.length_cons] at hl; omega) hc
            rw [← h.1, ← h.2]
            simp only [List.length_cons] at this ⊢
            omega
        · split at h
          · simp at h
            rw [h.1, ← h.2]
            simp
          · cases h
theorem chk_some {x y : Val} {r q : List UInt8} (h : chk x r = some (y, q)) : mayB x = true ∧ y = x ∧ q = r := by
  unfold chk at h
  cases hm : mayB x
  · rw [hm] at h; cases h
  · rw [hm] at h
    simp at h
    exact ⟨rfl, h.1.symm, h.2.symm⟩
theorem cut1_less (l r : List UInt8) (x : Val) (h : cut1 l = some (x, r)) : r.length < l.length := by
  cases l with
  | nil => simp [cut1] at h
  | cons t l =>
    rw [cut1] at h
    rw [List.length_cons]
    split at h
    · rw [(chk_some h).2.2]; omega
    · split at h
      · split at h
        · cases h
        · rw [(chk_some h).2.2, List.length_drop]; omega
      · split at h
        · split at h
          · cases h
          · rw [(chk_some h).2.2, List.length_drop]; omega
        · split at h
          · cases hc : cutT l with
            | none => rw [hc] at h; cases h
            | some p =>
              obtain ⟨t', r'⟩ := p
              rw [hc] at h
              have := cutT_less l.length l t' r' (Nat.le_refl _) hc
              rw [(chk_some h).2.2]
              omega
          · cases h
theorem decF_enough : ∀ (f g : Nat) (l : List UInt8), l.length ≤ f → l.length ≤ g → decF f l = decF g l := by
  intro f
  induction f with
  | zero =>
    intro g l hf _
    have : l = [] := List.eq_nil_of_length_eq_zero (by omega)
    subst this
    cases g <;> rfl
  | succ f ih =>
    intro g l hf hg
    cases l with
    | nil => cases g <;> rfl
    | cons t l =>
      cases g with
      | zero => simp at hg
      | succ g =>
        rw [decF, decF]
        cases hc : cut1 (t :: l) with
        | none => rfl
        | some p =>
          obtain ⟨x, r⟩ := p
          have := cut1_less _ _ _ hc
          simp only [List.length_cons] at this hf hg
          simp only [ih g r (by omega) (by omega)]
/-- What Decode answers. -/
def decL (l : List UInt8) : Option (List Val) := decF l.length l
theorem decL_nil : decL [] = some [] := rfl
theorem decL_none (l : List UInt8) (hl : l ≠ []) (h : cut1 l = none) : decL l = none := by
  cases l with
  | nil => exact absurd rfl hl
  | cons t l => unfold decL; rw [List.length_cons, decF, h]
theorem decL_some (l r : List UInt8) (x : Val) (h : cut1 l = some (x, r)) : decL l = (decL r).map (x :: ·) := by
  have hless := cut1_less _ _ _ h
  cases l with
  | nil => simp [cut1] at h
  | cons t l =>
    unfold decL
    rw [List.length_cons, decF, h]
    simp only [List.length_cons] at hless
    simp only [decF_enough l.length r.length r (by omega) (Nat.le_refl _)]

def DecRel (l : List UInt8) (w : World) (q : ByteArray) (v : Value) (wr : World) : Prop :=
  Below w.heap.size w wr ∧ ∃ xs, xs.length + q.size ≤ l.length ∧ OwnV wr w.heap.size v xs ∧ decL l = (decL q.data.toList).map (xs ++ ·)
/-- What Decode answers, as a slice. -/
def DecPost (l : List UInt8) (w : World) (e : Ending) (w' : World) : Prop :=
  Below w.heap.size w w' ∧ ∃ A n c, e = .returned (.tuple #[.slice A n c, .bool (decL l).isSome]) ∧ ((decL l).getD []).length = n ∧ n ≤ l.length ∧ Sl w' A ((decL l).getD [])
def sizeOfS : Value → Nat
  | .string s => s.size
  | _ => 0

set_option maxHeartbeats 4000000 in
theorem decode_c (s : ByteArray) (w : World) (hs : s.size ≤ 500000) : Calls Tryd.prog 10 #[.string s] w (DecPost s.data.toList w) := by
  go_enter Tryd.func10, Tryd.ntmps10
  go_wp2_with fail
  go_loopw [0, 4] (fun y x wr => ∃ q : ByteArray, y = .string q ∧ DecRel s.data.toList w q x wr) (fun y _ _ => sizeOfS y)
  case atStart => exact ⟨s, rfl, Below.refl _ _, [], by simp, OwnV.nil _ _, by simp⟩
  case round =>
    obtain ⟨q, rfl, hb, xs, hlen, hown, hdec⟩ := hrel
    have e5 : s.data.toList.length = s.size := rfl
    rw [e5] at hlen
    clear e5
    have Hown := Lib.hid hown
    have Hdec := Lib.hid hdec
    clear hown hdec
    have hB := hb.size
    by_cases hq : q.size = 0
    · obtain rfl : q = emp := by
        obtain ⟨⟨l⟩⟩ := q
        have : l = [] := List.eq_nil_of_length_eq_zero (by simpa [ByteArray.size] using hq)
        rw [this]
      obtain ⟨A, c, rfl, hsl⟩ := Hown.out.sl
      have hfin : decL s.data.toList = some xs := by
        have := Hdec.out
        rw [show decL (emp : ByteArray).data.toList = some [] from rfl, Option.map_some, List.append_nil] at this
        exact this
      have Hfin := Lib.hid hfin
      have Hsl := Lib.hid hsl
      clear hfin hsl
      go_wp2
      go_ret2
      refine ⟨hb, A, xs.length, c, ?_, ?_, ?_, ?_⟩
      · rw [Hfin.out]; rfl
      · rw [Hfin.out]; rfl
      · have e5 : s.data.toList.length = s.size := rfl
        rw [e5]; omega
      · rw [Hfin.out]; exact Hsl.out
    · have hne : q.toList.isEmpty = false := by
        rw [ByteArray.toList_eq]
        cases hl : q.data.toList with
        | nil =>
          exfalso
          have e5 : q.data.toList.length = q.size := rfl
          rw [hl] at e5
          exact hq e5.symm
        | cons _ _ => rfl
      have hnil : q.data.toList ≠ [] := by
        intro h
        have e5 : q.data.toList.length = q.size := rfl
        rw [h] at e5
        exact hq e5.symm
      have Hnil := Lib.hid hnil
      clear hnil
      go_wp2_with fail
      refine (cutValue_c q wr (by omega) (by omega)).mono ?_
      rintro e w1 ⟨hb1, x, r, ok, rfl, hcut⟩
      have Hcut := Lib.hid hcut
      have hbw1 : Below w.heap.size w w1 := hb.trans (hb1.mono hB)
      have Hown1 : Hid (OwnV w1 w.heap.size u4 xs) := Hown.out.after hb1
      have hB1 := hbw1.size
      clear hcut hb1 hb hB Hown
      cases ok
      · have hfin : decL s.data.toList = none := by
          have := Hdec.out
          rw [decL_none _ Hnil.out Hcut.out] at this
          exact this
        have Hfin := Lib.hid hfin
        clear hfin
        go_wp2
        go_ret2
        refine ⟨hbw1.alloc hB1 _, none, 0, 0, ?_, ?_, Nat.zero_le _, ?_⟩
        · rw [Hfin.out]; rfl
        · rw [Hfin.out]; rfl
        · rw [Hfin.out]; exact .inl rfl
      · have hstep : decL s.data.toList = (decL r.data.toList).map ((xs ++ [x]) ++ ·) := by
          have := Hdec.out
          rw [decL_some _ _ _ Hcut.out, Option.map_map] at this
          rw [this]
          congr 1
          funext l
          simp
        have hless : r.size < q.size := cut1_less _ _ _ Hcut.out
        have Hstep := Lib.hid hstep
        have Hlen := Lib.hid (show xs.length ≤ 1000000 by omega)
        have hlen2 : xs.length + 1 + r.size ≤ s.size := by omega
        clear hstep
        go_wp2_with (at_builtin; go_must (
          refine wpList_appV x rfl (.tmp 18) (.tmp 20) rfl w.heap.size _ xs rfl (Hown1.out.alloc _) _ rfl (by simp) Hlen.out (by simp; omega) ?_
          intro v1 w2 hv1 hg1
          have hbw2 : Below w.heap.size w w2 := (hbw1.alloc hB1 _).grown hg1 (by simp; omega) (fun k hk => (Hown1.out.lt k hk).1)
          have Hv1 := Lib.hid hv1
          clear hv1 hg1))
        go_roundw
        case rel => exact ⟨r, rfl, hbw2, xs ++ [x], by have e5 : s.data.toList.length = s.size := rfl; rw [e5, List.length_append]; simpa using hlen2, Hv1.out, Hstep.out⟩
        case measure => simp [sizeOfS]; exact hless
end Go.Proofs.YtkbgcgkblbbcbaaDoor
