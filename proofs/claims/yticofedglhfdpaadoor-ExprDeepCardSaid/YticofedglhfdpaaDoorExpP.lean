/-
  What expressions come to: plain facts. One that has a kind comes to a value of that kind, or null, or it is too large; what is wrong comes with null; ones that are added up.
-/
import Derived.Test.YticofedglhfdpaaDoorBig
namespace Go.Proofs.YticofedglhfdpaaDoor
open Go Go.RowKit

theorem evalR_err (e : List Nd) (row : List Val) (h : ((evalR e row).2 == 0) = false) : (evalR e row).1 = nl := by
  unfold evalR at *
  split
  · rfl
  · rename_i h1
    rw [if_neg h1] at h
    split
    · rfl
    · rename_i x hx
      rw [hx] at h
      simp at h
    · rfl
theorem typeR_err (e : List Nd) (cols : List Int) (h : ((typeR e cols).2 == 0) = false) : (typeR e cols).1 = 0 := by
  unfold typeR at *
  split
  · rfl
  · rename_i h1
    rw [if_neg h1] at h
    split
    · rfl
    · rename_i x hx
      rw [hx] at h
      simp at h
    · rfl

/-- A value is null, or of this kind. -/
def Fit (k : Int) (v : Val) : Prop := v.k = 0 ∨ v.k = k
def Rel (ks : List Int) (vs : List Val) : Prop := ks.length = vs.length ∧ ∀ (i : Nat) (k : Int) (v : Val), ks[i]? = some k → vs[i]? = some v → Fit k v
theorem Rel.take {ks : List Int} {vs : List Val} (h : Rel ks vs) (n : Nat) : Rel (ks.take n) (vs.take n) := by
  refine ⟨by simp [h.1], fun i k v hk hv => ?_⟩
  rw [List.getElem?_take] at hk hv
  split at hk
  · rename_i hi
    rw [if_pos hi] at hv
    exact h.2 i k v hk hv
  · cases hk
theorem Rel.drop {ks : List Int} {vs : List Val} (h : Rel ks vs) (n : Nat) : Rel (ks.drop n) (vs.drop n) := by
  refine ⟨by simp [h.1], fun i k v hk hv => ?_⟩
  rw [List.getElem?_drop] at hk hv
  exact h.2 _ k v hk hv
theorem Rel.push {ks : List Int} {vs : List Val} (h : Rel ks vs) {k : Int} {v : Val} (hf : Fit k v) : Rel (ks ++ [k]) (vs ++ [v]) := by
  refine ⟨by simp [h.1], fun i a b ha hb => ?_⟩
  rcases Nat.lt_trichotomy i ks.length with hi | hi | hi
  · rw [List.getElem?_append_left hi] at ha
    rw [List.getElem?_append_left (by rw [← h.1]; exact hi)] at hb
    exact h.2 i a b ha hb
  · rw [List.getElem?_append_right (by omega), hi, Nat.sub_self] at ha
    rw [List.getElem?_append_right (by rw [← h.1]; omega), hi, h.1, Nat.sub_self] at hb
    simp at ha hb
    subst ha hb
    exact hf
  · rw [List.getElem?_eq_none (by simp; omega)] at ha
    cases ha
theorem fitsR_at : ∀ (row : List Val) (cols : List Int), fitsR row cols = true → ∀ (i : Nat) (v : Val) (k : Int), row[i]? = some v → cols[i]? = some k → Fit k v
  | [], cols, _, i, v, k, h, _ => by simp at h
  | a :: r, [], _, i, v, k, _, h => by simp at h
  | a :: r, b :: s, hf, i, v, k, h, h' => by
    simp only [fitsR, Bool.and_eq_true] at hf
    cases i with
    | zero =>
      simp at h h'
      subst h h'
      have := hf.1
      unfold Fit
      simpa using this
    | succ i => exact fitsR_at r s hf.2 i v k (by simpa using h) (by simpa using h')

theorem fitB_rel (kind : Int) : ∀ (ts : List Int) (vs : List Val), Rel ts vs → fitB kind ts = true → fitB kind (vs.map (·.k)) = true
  | [], [], _, _ => rfl
  | [], v :: r, h, _ => by have := h.1; simp at this
  | t :: ts, [], h, _ => by have := h.1; simp at this
  | t :: ts, v :: vs, h, hf => by
    simp only [fitB, Bool.and_eq_true, List.map_cons] at hf ⊢
    have h0 : Fit t v := h.2 0 t v rfl rfl
    refine ⟨?_, fitB_rel kind ts vs (by have := h.drop 1; simpa using this) hf.2⟩
    have h1 := hf.1
    simp at h1 ⊢
    rcases h0 with h0 | h0
    · exact .inr h0
    · rw [h0]
      exact h1
theorem fit2 (a b : Int) : (fitB a [a, b] || fitB b [a, b]) = true ↔ a = b ∨ a = 0 ∨ b = 0 := by
  simp only [fitB, Bool.and_true, bne_self_eq_false, Bool.false_and, Bool.not_false, Bool.true_and, Bool.or_eq_true, Bool.not_eq_true', Bool.and_eq_false_iff, bne_eq_false_iff_eq]
  constructor
  · rintro ((h | h) | (h | h))
    · exact .inl h.symm
    · exact .inr (.inr h)
    · exact .inl h
    · exact .inr (.inl h)
  · rintro (h | h | h)
    · exact .inl (.inl h.symm)
    · exact .inr (.inr h)
    · exact .inl (.inr h)
theorem kind_rel2 (ts : List Int) (vs : List Val) (hl : ts.length = 2) (h : Rel ts vs) (hk : (fitB (ts.getD 0 0) ts || fitB (ts.getD 1 0) ts) = true) : (fitB ((vs.map (·.k)).getD 0 0) (vs.map (·.k)) || fitB ((vs.map (·.k)).getD 1 0) (vs.map (·.k))) = true := by
  match ts, vs, hl, h, hk with
  | [a, b], [x, y], _, h, hk =>
    have hk' : (fitB a [a, b] || fitB b [a, b]) = true := hk
    rw [fit2] at hk'
    have hx : Fit a x := h.2 0 a x rfl rfl
    have hy : Fit b y := h.2 1 b y rfl rfl
    show (fitB x.k [x.k, y.k] || fitB y.k [x.k, y.k]) = true
    rw [fit2]
    unfold Fit at hx hy
    omega
  | [a, b], [], _, h, _ => exact absurd h.1 (by simp)
  | [a, b], [x], _, h, _ => exact absurd h.1 (by simp)
  | [a, b], x :: y :: z :: r, _, h, _ => exact absurd h.1 (by simp)
theorem kind_rel (op : Int) (ts : List Int) (vs : List Val) (hl : ts.length = takes op) (h : Rel ts vs) (hk : (kindR op ts).2 = true) : (kindR op (vs.map (·.k))).2 = true := by
  rcases ops_cases op with rfl | rfl | rfl | rfl | rfl | rfl | rfl | rfl | rfl | ⟨h2, h3, h4, h5, h6, h7, h8, h9, h10⟩
  · exact fitB_rel 2 ts vs h hk
  · exact fitB_rel 2 ts vs h hk
  · exact fitB_rel 2 ts vs h hk
  · exact kind_rel2 ts vs hl h hk
  · exact kind_rel2 ts vs hl h hk
  · exact fitB_rel 1 ts vs h hk
  · exact fitB_rel 1 ts vs h hk
  · exact fitB_rel 1 ts vs h hk
  · rfl
  · simp [kindR, h2, h3, h4, h5, h6, h7, h8, h9, h10] at hk
theorem comp_kind (x y : Val) (r : Int) (f : Bool) : (comp x y r f).1.k = 0 ∨ (comp x y r f).1.k = 2 := by
  unfold comp
  split
  · exact .inl rfl
  · split
    · exact .inl rfl
    · split
      · exact .inr rfl
      · exact .inl rfl
theorem tv_kind (b : Bool) : (tv b).k = 1 := by cases b <;> rfl
theorem unl_kind (b : Bool) (l : List Val) : (unl b l).k = 0 ∨ (unl b l).k = 1 := by
  unfold unl
  split
  · exact .inl rfl
  · exact .inr (tv_kind b)
theorem nt_kind (x : Val) : (nt x).k = 0 ∨ (nt x).k = 1 := by
  unfold nt
  split
  · exact .inr rfl
  · split
    · exact .inr rfl
    · exact .inl rfl
theorem dec_kind (s t : Val) (hs : s.k = 1) : ∀ (l : List Val) (a : Val), (a.k = 0 ∨ a.k = 1) → ((dec s t a l).k = 0 ∨ (dec s t a l).k = 1)
  | [], a, h => by rw [dec]; exact h
  | v :: r, a, h => by
    rw [dec]
    split
    · exact .inr hs
    · split
      · exact dec_kind s t hs r _ h
      · exact dec_kind s t hs r _ (.inl rfl)
theorem cmp_kind (op : Int) (vs : List Val) (k : Int) (hk : (kindR op (vs.map (·.k))).1 = k) (hop : (kindR op (vs.map (·.k))).2 = true) : Fit k (cmpR op vs).1 := by
  rcases ops_cases op with rfl | rfl | rfl | rfl | rfl | rfl | rfl | rfl | rfl | ⟨h2, h3, h4, h5, h6, h7, h8, h9, h10⟩
  · obtain rfl : (2 : Int) = k := hk
    exact comp_kind _ _ _ _
  · obtain rfl : (2 : Int) = k := hk
    exact comp_kind _ _ _ _
  · obtain rfl : (2 : Int) = k := hk
    exact comp_kind _ _ _ _
  · obtain rfl : (1 : Int) = k := hk
    exact unl_kind _ _
  · obtain rfl : (1 : Int) = k := hk
    exact unl_kind _ _
  · obtain rfl : (1 : Int) = k := hk
    exact dec_kind ff _ rfl vs _ (.inr (by rw [nt_ff]; rfl))
  · obtain rfl : (1 : Int) = k := hk
    exact dec_kind tt _ rfl vs _ (.inr (by rw [nt_tt]; rfl))
  · obtain rfl : (1 : Int) = k := hk
    exact nt_kind _
  · obtain rfl : (1 : Int) = k := hk
    exact .inr (tv_kind _)
  · simp [kindR, h2, h3, h4, h5, h6, h7, h8, h9, h10] at hop
/-- The kind of what a step leaves does not hang on the kinds of what it takes. -/
theorem kind_same (op : Int) (a b : List Int) : (kindR op a).1 = (kindR op b).1 := by
  unfold kindR
  split
  · rfl
  · split
    · rfl
    · split
      · rfl
      · split
        · rfl
        · rfl
/-- A STEP KEEPS KINDS AND VALUES TOGETHER. -/
theorem step_rel (cols : List Int) (row : List Val) (hlen : row.length = cols.length) (hfit : ∀ (i : Nat) (v : Val) (k : Int), row[i]? = some v → cols[i]? = some k → Fit k v) (x : Nd) (ks ks' : List Int) (vs : List Val) (h : Rel ks vs) (hs : stepK cols ks x = some ks') :
    stepV row vs x = .inl 31 ∨ ∃ vs', stepV row vs x = .inr vs' ∧ Rel ks' vs' := by
  unfold stepK at hs
  split at hs
  · rename_i hok
    injection hs with hs
    subst hs
    unfold stepV
    unfold lvK at hok ⊢
    unfold lvV
    cases h0 : x.op == 0
    · rw [h0] at hok
      cases h1 : x.op == 1
      · rw [h1] at hok
        simp only [Bool.false_eq_true, if_false] at hok ⊢
        by_cases hf : ks.length < takes x.op
        · rw [if_pos hf] at hok
          cases hok
        · rw [if_neg hf] at hok
          have hf' : ¬ vs.length < takes x.op := by rw [← h.1]; exact hf
          simp only [if_neg hf, if_neg hf']
          have hr := h.drop (ks.length - takes x.op)
          have ht := h.take (ks.length - takes x.op)
          rw [h.1] at hr ht
          rw [h.1] at hok ⊢
          have hl2 : (ks.drop (vs.length - takes x.op)).length = takes x.op := by rw [List.length_drop]; have := h.1; omega
          have hok' := kind_rel x.op _ _ hl2 hr hok
          have hm : mtR x.op (vs.drop (vs.length - takes x.op)) = true := hok'
          cases hc : (cmpR x.op (vs.drop (vs.length - takes x.op))).2
          · left
            simp [opR, hm, hc]
          · right
            refine ⟨_, by simp only [opR, hm, hc, if_true]; rfl, ?_⟩
            exact ht.push (cmp_kind x.op _ _ (kind_same _ _ _) hok')
      · rw [h1] at hok
        right
        simp only [Bool.false_eq_true, if_false, if_true] at hok ⊢
        refine ⟨_, by simp only [conR, hok, if_true]; rfl, ?_⟩
        exact h.push (.inr rfl)
    · rw [h0] at hok
      right
      simp only [if_true] at hok ⊢
      unfold colR at hok ⊢
      unfold vcolR
      by_cases hn : x.n < 0
      · rw [if_pos hn] at hok
        cases hok
      · rw [if_neg hn] at hok ⊢
        rw [if_neg hn]
        cases hc : cols[x.n.toNat]? with
        | none => rw [hc] at hok; cases hok
        | some k =>
          have hlt := (List.getElem?_eq_some_iff.1 hc).1
          have hr : row[x.n.toNat]? = some (row[x.n.toNat]'(by omega)) := List.getElem?_eq_getElem _
          rw [hr]
          exact ⟨_, rfl, h.push (hfit _ _ _ hr hc)⟩
  · cases hs
theorem go_rel (cols : List Int) (row : List Val) (hlen : row.length = cols.length) (hfit : ∀ (i : Nat) (v : Val) (k : Int), row[i]? = some v → cols[i]? = some k → Fit k v) : ∀ (e : List Nd) (ks ks' : List Int) (vs : List Val), Rel ks vs → goS (stepKS cols) ks e = .inr ks' →
    goS (stepV row) vs e = .inl 31 ∨ ∃ vs', goS (stepV row) vs e = .inr vs' ∧ Rel ks' vs'
  | [], ks, ks', vs, h, hg => by
    rw [goS] at hg
    cases hg
    exact .inr ⟨vs, rfl, h⟩
  | x :: r, ks, ks', vs, h, hg => by
    rw [goS] at hg
    unfold stepKS at hg
    cases hs : stepK cols ks x with
    | none => rw [hs] at hg; cases hg
    | some k1 =>
      rw [hs] at hg
      rcases step_rel cols row hlen hfit x ks k1 vs h hs with h1 | ⟨v1, h1, hr⟩
      · left
        rw [goS, h1]
      · rw [goS, h1]
        exact go_rel cols row hlen hfit r k1 ks' v1 hr hg
/-- AN EXPRESSION THAT HAS A KIND. -/
theorem typed_eval (e : List Nd) (cols : List Int) (row : List Val) (hf : fitsB row cols = true) (ht : ((typeR e cols).2 == 0) = true) :
    (evalR e row).2 = 31 ∨ ((evalR e row).2 = 0 ∧ Fit (typeR e cols).1 (evalR e row).1) := by
  unfold fitsB at hf
  rw [Bool.and_eq_true] at hf
  have hlen : row.length = cols.length := by simpa using hf.1
  have hfit := fitsR_at row cols hf.2
  unfold typeR at ht ⊢
  unfold evalR
  by_cases hl : 100 < e.length
  · rw [if_pos hl] at ht
    cases ht
  · rw [if_neg hl] at ht ⊢
    rw [if_neg hl]
    cases hg : goS (stepKS cols) [] e with
    | inl er =>
      rw [hg] at ht
      obtain rfl := goS_err e [] er hg
      cases ht
    | inr ks =>
      rw [hg] at ht
      rcases go_rel cols row hlen hfit e [] ks [] ⟨rfl, fun i k v h => by simp at h⟩ hg with h1 | ⟨vs, h1, hr⟩
      · left
        rw [h1]
      · rw [h1]
        match ks, vs, ht, hr with
        | [k], [v], _, hr => exact .inr ⟨rfl, hr.2 0 k v rfl rfl⟩
        | [k], [], _, hr => exact absurd hr.1 (by simp)
        | [k], a :: b :: r, _, hr => exact absurd hr.1 (by simp)
        | [], _, ht, _ => cases ht
        | a :: b :: r, _, ht, _ => cases ht
end Go.Proofs.YticofedglhfdpaaDoor
