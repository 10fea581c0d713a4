/-
  Plain facts on texts of bags: they tell bags of rows that may be apart. No condition beyond that.
-/
import Derived.Test.YthgoflaphbigbaaGreatDoorBagQ
namespace Go.Proofs.YthgoflaphbigbaaGreatDoor
open Go

/-- Nothing, or a byte of a kind. -/
def StopP (P : UInt8 → Prop) (r : List UInt8) : Prop := r = [] ∨ ∃ c l, r = c :: l ∧ P c
theorem cut_pre (P : UInt8 → Prop) : ∀ (a b r s : List UInt8), (∀ c ∈ a, ¬ P c) → (∀ c ∈ b, ¬ P c) → StopP P r → StopP P s → a ++ r = b ++ s → a = b ∧ r = s
  | [], [], r, s, _, _, _, _, h => ⟨rfl, h⟩
  | [], c :: b, r, s, _, hb, hr, _, h => by
    exfalso
    rcases hr with rfl | ⟨d, l, rfl, hd⟩
    · simp at h
    · simp at h
      rw [h.1] at hd
      exact hb c (by simp) hd
  | c :: a, [], r, s, ha, _, _, hs, h => by
    exfalso
    rcases hs with rfl | ⟨d, l, rfl, hd⟩
    · simp at h
    · simp at h
      rw [← h.1] at hd
      exact ha c (by simp) hd
  | c :: a, d :: b, r, s, ha, hb, hr, hs, h => by
    simp only [List.cons_append, List.cons.injEq] at h
    obtain ⟨h1, h2⟩ := cut_pre P a b r s (fun x hx => ha x (List.mem_cons_of_mem _ hx)) (fun x hx => hb x (List.mem_cons_of_mem _ hx)) hr hs h.2
    exact ⟨by rw [h.1, h1], h2⟩
def P41 (c : UInt8) : Prop := c = 44 ∨ c = 41
def P32 (c : UInt8) : Prop := c = 32
theorem itoa_chars (a : Int) : ∀ c ∈ Lib.itoa a, 45 ≤ c.toNat ∧ c.toNat ≤ 57 := by
  unfold Lib.itoa
  intro c hc
  by_cases ha : a < 0
  · rw [if_pos ha] at hc
    rcases List.mem_cons.1 hc with rfl | hc
    · decide
    · have := dec_all _ c hc; omega
  · rw [if_neg ha] at hc
    have := dec_all _ c hc
    omega
theorem itoa_41 (a : Int) : ∀ c ∈ Lib.itoa a, ¬ P41 c := fun c hc h => by
  have := itoa_chars a c hc
  rcases h with rfl | rfl
  · exact absurd this (by decide)
  · exact absurd this (by decide)
theorem itoa_32 (a : Int) : ∀ c ∈ Lib.itoa a, ¬ P32 c := fun c hc h => by
  have := itoa_chars a c hc
  rw [h] at this
  exact absurd this (by decide)
theorem cut_quo2 : ∀ (a b r s : List UInt8), StopP P41 r → StopP P41 s → sub1 39 [39, 39] a ++ 39 :: r = sub1 39 [39, 39] b ++ 39 :: s → a = b ∧ r = s := by
  have no : ∀ {r : List UInt8}, StopP P41 r → ∀ l, r ≠ 39 :: l := by
    intro r hr l e
    rcases hr with rfl | ⟨c, l', rfl, hc⟩
    · cases e
    · injection e with e _
      rw [e] at hc
      rcases hc with h | h <;> exact absurd h (by decide)
  intro a
  induction a with
  | nil =>
    intro b r s hr hs h
    cases b with
    | nil => simp [sub1] at h; exact ⟨rfl, h⟩
    | cons c b =>
      exfalso
      rw [sub1, sub1] at h
      by_cases e : c = 39
      · rw [if_pos e] at h
        simp only [List.nil_append, List.cons_append, List.cons.injEq, true_and] at h
        exact no hr _ h
      · rw [if_neg e] at h
        simp only [List.nil_append, List.cons_append, List.cons.injEq] at h
        exact e h.1.symm
  | cons c a ih =>
    intro b r s hr hs h
    cases b with
    | nil =>
      exfalso
      rw [sub1, sub1] at h
      by_cases e : c = 39
      · rw [if_pos e] at h
        simp only [List.nil_append, List.cons_append, List.cons.injEq, true_and] at h
        exact no hs _ h.symm
      · rw [if_neg e] at h
        simp only [List.nil_append, List.cons_append, List.cons.injEq] at h
        exact e h.1
    | cons d b =>
      rw [sub1, sub1] at h
      by_cases e1 : c = 39 <;> by_cases e2 : d = 39
      · rw [if_pos e1, if_pos e2] at h
        simp only [List.nil_append, List.cons_append, List.cons.injEq, true_and] at h
        obtain ⟨h1, h2⟩ := ih b r s hr hs h
        exact ⟨by rw [h1, e1, e2], h2⟩
      · rw [if_pos e1, if_neg e2] at h
        simp only [List.nil_append, List.cons_append, List.cons.injEq] at h
        exact absurd h.1.symm e2
      · rw [if_neg e1, if_pos e2] at h
        simp only [List.nil_append, List.cons_append, List.cons.injEq] at h
        exact absurd h.1 e1
      · rw [if_neg e1, if_neg e2] at h
        simp only [List.cons_append, List.cons.injEq] at h
        obtain ⟨h1, h2⟩ := ih b r s hr hs h.2
        exact ⟨by rw [h.1, h1], h2⟩
/-- A value's text tells where it ends, also where a row ends behind it. -/
theorem text_cut2 {x y : Val} (hx : Valid x) (hy : Valid y) {r s : List UInt8} (hr : StopP P41 r) (hs : StopP P41 s) (h : textL x ++ r = textL y ++ s) : x = y ∧ r = s := by
  have key : textL x = textL y ∧ r = s := by
    obtain ⟨c, l, ex, hc⟩ := text_head x hx
    obtain ⟨d, l', ey, hd⟩ := text_head y hy
    have hcd : c = d := by
      have h' := h
      rw [ex, ey] at h'
      exact (List.cons.inj h').1
    subst hcd
    clear ex ey
    have hkk : x.k = y.k ∧ (x.k = 1 → x.n = y.n) := by
      rcases hc with hc | hc | hc | hc | hc <;> rcases hd with hd | hd | hd | hd | hd <;> omega
    obtain ⟨hk, hn⟩ := hkk
    have hk' : x.k = 0 ∨ x.k = 1 ∨ x.k = 2 ∨ x.k = 3 := by rcases hc with hc | hc | hc | hc | hc <;> omega
    rcases hk' with h0 | h0 | h0 | h0
    · have e : textL x = textL y := by unfold textL; rw [← hk, h0]; rfl
      rw [e] at h
      exact ⟨e, List.append_cancel_left h⟩
    · have e : textL x = textL y := by unfold textL; rw [← hk, h0, hn h0]; rfl
      rw [e] at h
      exact ⟨e, List.append_cancel_left h⟩
    · have ex : textL x = Lib.itoa x.n := by unfold textL; rw [h0]; rfl
      have ey : textL y = Lib.itoa y.n := by unfold textL; rw [← hk, h0]; rfl
      rw [ex, ey] at h ⊢
      exact cut_pre P41 _ _ r s (itoa_41 _) (itoa_41 _) hr hs h
    · have ex : textL x = [39] ++ sub1 39 [39, 39] x.s.data.toList ++ [39] := by unfold textL; rw [h0]; rfl
      have ey : textL y = [39] ++ sub1 39 [39, 39] y.s.data.toList ++ [39] := by unfold textL; rw [← hk, h0]; rfl
      rw [ex, ey] at h ⊢
      simp only [List.append_assoc, List.cons_append, List.nil_append, List.cons.injEq, true_and] at h
      obtain ⟨h1, h2⟩ := cut_quo2 _ _ r s hr hs h
      rw [h1]
      exact ⟨rfl, h2⟩
  exact ⟨text_inj hx hy key.1, key.2⟩
theorem tail_stop2 (l : List (List UInt8)) (r : List UInt8) : StopP P41 (Lib.joinTail [44, 32] l ++ 41 :: r) := by
  cases l with
  | nil => exact .inr ⟨41, r, rfl, .inr rfl⟩
  | cons x l => exact .inr ⟨44, _, rfl, .inl rfl⟩
theorem tail_cut : ∀ (a b : List Val) (r s : List UInt8), (∀ x ∈ a, Valid x) → (∀ x ∈ b, Valid x) → Lib.joinTail [44, 32] (a.map textL) ++ 41 :: r = Lib.joinTail [44, 32] (b.map textL) ++ 41 :: s → a = b ∧ r = s
  | [], [], r, s, _, _, h => by
    simp [Lib.joinTail] at h
    exact ⟨rfl, h⟩
  | [], y :: b, r, s, _, _, h => by
    rw [List.map_cons, tail_cons] at h
    simp [Lib.joinTail] at h
  | x :: a, [], r, s, _, _, h => by
    rw [List.map_cons, tail_cons] at h
    simp [Lib.joinTail] at h
  | x :: a, y :: b, r, s, ha, hb, h => by
    rw [List.map_cons, List.map_cons, tail_cons, tail_cons] at h
    simp only [List.cons_append, List.append_assoc, List.cons.injEq, true_and] at h
    obtain ⟨h1, h2⟩ := text_cut2 (ha x (by simp)) (hb y (by simp)) (tail_stop2 _ r) (tail_stop2 _ s) h
    obtain ⟨h3, h4⟩ := tail_cut a b r s (fun z hz => ha z (List.mem_cons_of_mem _ hz)) (fun z hz => hb z (List.mem_cons_of_mem _ hz)) h2
    exact ⟨by rw [h1, h3], h4⟩
/-- A row's text tells where it ends. -/
theorem row_cut : ∀ (a b : List Val) (r s : List UInt8), (∀ x ∈ a, Valid x) → (∀ x ∈ b, Valid x) → rowT a ++ r = rowT b ++ s → a = b ∧ r = s := by
  intro a b r s ha hb h
  unfold rowT at h
  simp only [List.append_assoc, List.cons_append, List.nil_append, List.cons.injEq, true_and] at h
  cases a with
  | nil =>
    cases b with
    | nil =>
      simp [bodyL, Lib.join] at h
      exact ⟨rfl, h⟩
    | cons y b =>
      exfalso
      rw [body_cons] at h
      obtain ⟨c, l, e, hc⟩ := text_head y (hb y (by simp))
      rw [e] at h
      have h1 : (41 : UInt8) = c := (List.cons.inj h).1
      rw [← h1] at hc
      have h41 : (41 : UInt8).toNat = 41 := by decide
      rw [h41] at hc
      omega
  | cons x a =>
    cases b with
    | nil =>
      exfalso
      rw [body_cons] at h
      obtain ⟨c, l, e, hc⟩ := text_head x (ha x (by simp))
      rw [e] at h
      have h1 : c = (41 : UInt8) := (List.cons.inj h).1
      rw [h1] at hc
      have h41 : (41 : UInt8).toNat = 41 := by decide
      rw [h41] at hc
      omega
    | cons y b =>
      rw [body_cons, body_cons, List.append_assoc, List.append_assoc] at h
      obtain ⟨h1, h2⟩ := text_cut2 (ha x (by simp)) (hb y (by simp)) (tail_stop2 _ r) (tail_stop2 _ s) h
      obtain ⟨h3, h4⟩ := tail_cut a b r s (fun z hz => ha z (List.mem_cons_of_mem _ hz)) (fun z hz => hb z (List.mem_cons_of_mem _ hz)) h2
      exact ⟨by rw [h1, h3], h4⟩
/-- A count's text. -/
def cntT (n : Int) : List UInt8 := if n = 1 then [] else 42 :: Lib.itoa n
theorem cnt_cut (n m : Int) (r s : List UInt8) (hr : StopP P32 r) (hs : StopP P32 s) (h : cntT n ++ r = cntT m ++ s) : n = m ∧ r = s := by
  have no : ∀ {r : List UInt8}, StopP P32 r → ∀ l, r ≠ 42 :: l := by
    intro r hr l e
    rcases hr with rfl | ⟨c, l', rfl, hc⟩
    · cases e
    · injection e with e _
      rw [e] at hc
      exact absurd hc (by unfold P32; decide)
  unfold cntT at h
  by_cases hn : n = 1 <;> by_cases hm : m = 1
  · rw [if_pos hn, if_pos hm] at h
    exact ⟨by rw [hn, hm], h⟩
  · rw [if_pos hn, if_neg hm] at h
    exact absurd h (no hr _)
  · rw [if_neg hn, if_pos hm] at h
    exact absurd h.symm (no hs _)
  · rw [if_neg hn, if_neg hm] at h
    simp only [List.cons_append, List.cons.injEq, true_and] at h
    obtain ⟨h1, h2⟩ := cut_pre P32 _ _ r s (itoa_32 n) (itoa_32 m) hr hs h
    exact ⟨itoa_inj h1, h2⟩
def entT (x : List Val × Int) : List UInt8 := rowT x.1 ++ cntT x.2
/-- A bag's text. -/
def bagT (b : Bg) : List UInt8 := Lib.join (b.map entT) [32]
theorem btail_cons (x : List UInt8) (r : List (List UInt8)) : Lib.joinTail [32] (x :: r) = 32 :: (x ++ Lib.joinTail [32] r) := by
  simp [Lib.joinTail]
theorem btail_stop (l : List (List UInt8)) : StopP P32 (Lib.joinTail [32] l) := by
  cases l with
  | nil => exact .inl rfl
  | cons x r => exact .inr ⟨32, _, btail_cons x r, rfl⟩
def RowsOk (b : Bg) : Prop := ∀ x ∈ b, ∀ v ∈ x.1, Valid v
theorem ent_cut {x y : List Val × Int} (hx : ∀ v ∈ x.1, Valid v) (hy : ∀ v ∈ y.1, Valid v) {r s : List UInt8} (hr : StopP P32 r) (hs : StopP P32 s) (h : entT x ++ r = entT y ++ s) : x = y ∧ r = s := by
  unfold entT at h
  rw [List.append_assoc, List.append_assoc] at h
  obtain ⟨h1, h2⟩ := row_cut x.1 y.1 _ _ hx hy h
  obtain ⟨h3, h4⟩ := cnt_cut x.2 y.2 r s hr hs h2
  exact ⟨Prod.ext h1 h3, h4⟩
theorem btail_inj : ∀ a b : Bg, RowsOk a → RowsOk b → Lib.joinTail [32] (a.map entT) = Lib.joinTail [32] (b.map entT) → a = b
  | [], [], _, _, _ => rfl
  | [], y :: b, _, _, h => by rw [List.map_cons, btail_cons] at h; cases h
  | x :: a, [], _, _, h => by rw [List.map_cons, btail_cons] at h; cases h
  | x :: a, y :: b, ha, hb, h => by
    rw [List.map_cons, List.map_cons, btail_cons, btail_cons] at h
    simp only [List.cons.injEq, true_and] at h
    obtain ⟨h1, h2⟩ := ent_cut (ha x (by simp)) (hb y (by simp)) (btail_stop _) (btail_stop _) h
    rw [h1, btail_inj a b (fun z hz => ha z (List.mem_cons_of_mem _ hz)) (fun z hz => hb z (List.mem_cons_of_mem _ hz)) h2]
theorem bagT_cons (x : List Val × Int) (b : Bg) : bagT (x :: b) = entT x ++ Lib.joinTail [32] (b.map entT) := by
  unfold bagT
  rw [List.map_cons, Lib.join_cons]
theorem bagT_inj : ∀ a b : Bg, RowsOk a → RowsOk b → bagT a = bagT b → a = b
  | [], [], _, _, _ => rfl
  | [], y :: b, _, _, h => by rw [bagT_cons] at h; cases h
  | x :: a, [], _, _, h => by rw [bagT_cons] at h; cases h
  | x :: a, y :: b, ha, hb, h => by
    rw [bagT_cons, bagT_cons] at h
    obtain ⟨h1, h2⟩ := ent_cut (ha x (by simp)) (hb y (by simp)) (btail_stop _) (btail_stop _) h
    rw [h1, btail_inj a b (fun z hz => ha z (List.mem_cons_of_mem _ hz)) (fun z hz => hb z (List.mem_cons_of_mem _ hz)) h2]
theorem may_rowsOk {b : Bg} (h : mayBag b = true) : RowsOk b := fun x hx v hv => by
  have h4 := (okC_parts (may_okC h x hx)).2.2.2
  unfold mayR at h4
  rw [Bool.and_eq_true, List.all_eq_true] at h4
  exact valid_of_may v (h4.2 v hv)
end Go.Proofs.YthgoflaphbigbaaGreatDoor
