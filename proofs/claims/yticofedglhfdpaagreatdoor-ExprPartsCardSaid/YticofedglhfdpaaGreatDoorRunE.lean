/-
  How the steps of an expression are done one behind the other (run), of any expression and whatever a step does.
-/
import Derived.Test.YticofedglhfdpaaGreatDoorKinds
namespace Go.Proofs.YticofedglhfdpaaGreatDoor
open Go Go.RowKit
set_option maxRecDepth 100000

/-- The slice at A reads as the steps e. -/
def SlN (w : World) (A : Option Addr) (e : List Nd) : Prop :=
  e = [] ∨ ∃ b off, A = some ⟨b, off, none⟩ ∧ b < w.heap.size ∧ ∀ i (x : Nd), e[i]? = some x →
    w.cell? ⟨b, off + i * 5, none⟩ = some (.int .i64 x.op) ∧ w.cell? ⟨b, off + i * 5 + 1, none⟩ = some (.int .i64 x.n) ∧ w.cell? ⟨b, off + i * 5 + 2, none⟩ = some (.int .i64 x.v.k) ∧ w.cell? ⟨b, off + i * 5 + 3, none⟩ = some (.int .i64 x.v.n) ∧ w.cell? ⟨b, off + i * 5 + 4, none⟩ = some (.string x.v.s)
theorem SlN.after {w w' : World} {A : Option Addr} {e : List Nd} (h : SlN w A e) (hb : Below w.heap.size w w') : SlN w' A e := by
  rcases h with h | ⟨b, off, hA, hlt, h⟩
  · exact .inl h
  · refine .inr ⟨b, off, hA, Nat.lt_of_lt_of_le hlt hb.size, fun i x hx => ?_⟩
    obtain ⟨h0, h1, h2, h3, h4⟩ := h i x hx
    exact ⟨(hb.cell hlt).trans h0, (hb.cell hlt).trans h1, (hb.cell hlt).trans h2, (hb.cell hlt).trans h3, (hb.cell hlt).trans h4⟩

/-- All steps, one behind the other; the first error ends it. -/
def goS {σ : Type} (step : σ → Nd → Sum Int σ) : σ → List Nd → Sum Int σ
  | s, [] => .inr s
  | s, x :: r => match step s x with
    | .inl e => .inl e
    | .inr s' => goS step s' r
theorem goS_drop {σ : Type} (step : σ → Nd → Sum Int σ) (s : σ) (e : List Nd) (k : Nat) (x : Nd) (h : e[k]? = some x) : goS step s (e.drop k) = match step s x with
    | .inl e => .inl e
    | .inr s' => goS step s' (e.drop (k + 1)) := by
  have hlt : k < e.length := (List.getElem?_eq_some_iff.1 h).1
  have hv : e[k] = x := (List.getElem?_eq_some_iff.1 h).2
  rw [List.drop_eq_getElem_cons hlt, hv, goS]

/-- What run answers. -/
def RunPost {σ : Type} (B : Nat) (I : Nat → σ → World → Prop) (r : Sum Int σ) (w : World) (en : Ending) (w' : World) : Prop :=
  Below B w w' ∧ match r with
    | .inl er => en = .returned (.int .i64 er)
    | .inr s => en = .returned (.int .i64 0) ∧ ∃ i, I i s w'
def StepPost {σ : Type} (B : Nat) (I : σ → World → Prop) (r : Sum Int σ) (w : World) (en : Ending) (w' : World) : Prop :=
  Below B w w' ∧ match r with
    | .inl er => en = .returned (.int .i64 er) ∧ (er != 0) = true
    | .inr s => en = .returned (.int .i64 0) ∧ I s w'
set_option maxHeartbeats 1000000 in
theorem run_many (fv : Value) (A : Option Addr) (n c : Nat) (w : World) (hn : 100 < n) (hm : n ≤ maxLen) :
    Calls Tryz.prog 15 #[.slice A n c, fv] w fun en w' => en = .returned (.int .i64 1) ∧ w' = w := by
  unfold maxLen at hm
  have h1 : decide ((100 : Int) < n) = true := decide_eq_true (by omega)
  go_enter Tryz.func15, Tryz.ntmps15
  go_wp2
  go_ret
  exact ⟨rfl, rfl⟩
set_option maxHeartbeats 4000000 in
theorem run_c {σ : Type} (f : FuncId) (p : Value) (hE : ∀ args w, (callFunc f args).run Tryz.prog w = .ok (.enter f args) w) (B : Nat) (I : Nat → σ → World → Prop) (step : σ → Nd → Sum Int σ) (A : Option Addr) (n c : Nat) (e : List Nd) (s0 : σ) (w : World) (hn : e.length = n) (hs : SlN w A e) (hmax : n ≤ 100)
    (hB : B ≤ w.heap.size) (hAB : ∀ b off, A = some ⟨b, off, none⟩ → e ≠ [] → b < B) (h0 : I 0 s0 w) (hI : ∀ i s w1 w2, I i s w1 → Below w1.heap.size w1 w2 → I i s w2)
    (hcall : ∀ i s x w1, i < 100 → e[i]? = some x → Below B w w1 → I i s w1 → Calls Tryz.prog f #[p, x.w] w1 (StepPost B (I (i + 1)) (step s x) w1)) :
    Calls Tryz.prog 15 #[.slice A n c, .func (.func f) #[p] #[]] w (RunPost B I (goS step s0 e) w) := by
  have Hn := Lib.hid hn
  have Hs := Lib.hid hs
  have HI := Lib.hid hI
  have Hcall := Lib.hid hcall
  have HAB := Lib.hid hAB
  have H0 := Lib.hid h0
  obtain ⟨R, hR⟩ : ∃ R, goS step s0 e = R := ⟨_, rfl⟩
  rw [hR]
  have HR := Lib.hid hR
  have h1 : decide ((100 : Int) < n) = false := decide_eq_false (by omega)
  clear hn hs hI hcall hAB h0 hR
  go_enter Tryz.func15, Tryz.ntmps15
  go_wp2_with fail
  go_loopw [13] (fun i wr => ∃ (k : Nat) (s : σ), k ≤ n ∧ i = .int .i64 k ∧ Hid (Below B w wr) ∧ Hid (I k s wr) ∧ Hid (goS step s (e.drop k) = R)) (fun i _ => n - (intOf i).toNat)
  case atStart => exact ⟨0, s0, Nat.zero_le _, rfl, Below.refl _ _, H0.out, HR.out⟩
  case round =>
    obtain ⟨k, s, hk, rfl, hb, hIk, hinv⟩ := hrel
    by_cases hlt' : k < n
    · obtain ⟨x, hx⟩ : ∃ x, e[k]? = some x := ⟨e[k]'(by rw [Hn.out]; exact hlt'), List.getElem?_eq_getElem _⟩
      rcases Hs.out with h0 | ⟨b, off, rfl, hlt, hc⟩
      · rw [h0] at hx; simp at hx
      have hbB : b < B := HAB.out b off rfl (by rintro rfl; simp at hx)
      obtain ⟨c0, c1, c2, c3, c4⟩ := hc k x hx
      have d0 := (hb.out.cell (p := ⟨b, off + k * 5, none⟩) hbB).trans c0
      have d1 := (hb.out.cell (p := ⟨b, off + k * 5 + 1, none⟩) hbB).trans c1
      have d2 := (hb.out.cell (p := ⟨b, off + k * 5 + 2, none⟩) hbB).trans c2
      have d3 := (hb.out.cell (p := ⟨b, off + k * 5 + 3, none⟩) hbB).trans c3
      have d4 := (hb.out.cell (p := ⟨b, off + k * 5 + 4, none⟩) hbB).trans c4
      have hBr : B ≤ wr.heap.size := Nat.le_trans hB hb.out.size
      have Hx := Lib.hid hx
      clear c0 c1 c2 c3 c4 hc hx hlt
      go_wp2_with fail
      have hb1 := (hb.out.alloc hBr (.cells x.cells 36))
      have hI1 := HI.out k s _ _ hIk.out (below_one wr (.cells x.cells 36))
      have hstep := goS_drop step s e k x Hx.out
      rw [hinv.out] at hstep
      refine (Hcall.out k s x _ (by omega) Hx.out hb1 hI1).mono ?_
      obtain ⟨S, hS⟩ : ∃ S, step s x = S := ⟨_, rfl⟩
      rw [hS] at hstep ⊢
      clear hS hI1 d0 d1 d2 d3 d4 hIk hinv
      rintro en w1 ⟨hb2, hpost⟩
      have Hb2 := Lib.hid (hb1.trans hb2)
      clear hb1 hb2 hb
      cases S with
      | inl er =>
        obtain ⟨rfl, hne⟩ := hpost
        have Hst := Lib.hid hstep
        clear hstep
        go_wp2
        go_ret
        rw [Hst.out]
        exact ⟨Hb2.out, rfl⟩
      | inr s' =>
        obtain ⟨rfl, hI2⟩ := hpost
        have Hst := Lib.hid hstep
        have HI2 := Lib.hid hI2
        clear hstep hI2
        go_wp2
        go_roundw
        case rel => exact ⟨k + 1, s', by omega, by go_num, Hb2, HI2, Lib.hid Hst.out.symm⟩
        case measure => simp [intOf]; omega
    · have hkn : k = n := by omega
      have hstep := hinv.out
      rw [List.drop_eq_nil_of_le (by rw [Hn.out]; omega), goS] at hstep
      have Hst := Lib.hid hstep
      clear hstep hinv
      go_wp2
      go_ret
      rw [← Hst.out]
      exact ⟨hb.out, rfl, k, hIk.out⟩
end Go.Proofs.YticofedglhfdpaaGreatDoor
