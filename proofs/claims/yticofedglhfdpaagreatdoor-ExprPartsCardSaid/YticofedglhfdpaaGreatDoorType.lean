/-
  The kind of an expression, as the program's Type answers it, of any expression whose texts are not too long, and any columns.
-/
import Derived.Test.YticofedglhfdpaaGreatDoorKStep
import Derived.Test.YticofedglhfdpaaGreatDoorRunE
namespace Go.Proofs.YticofedglhfdpaaGreatDoor
open Go Go.RowKit
set_option maxRecDepth 100000

def stepKS (cols : List Int) (ks : List Int) (x : Nd) : Sum Int (List Int) := match stepK cols ks x with
  | none => .inl 30
  | some r => .inr r
/-- What Type answers. -/
def typeR (e : List Nd) (cols : List Int) : Int × Int := if 100 < e.length then (0, 1) else match goS (stepKS cols) [] e with
  | .inl er => (0, er)
  | .inr [k] => (k, 0)
  | .inr _ => (0, 30)
theorem enKStep : ∀ args w, (callFunc 22 args).run Tryz.prog w = .ok (.enter 22 args) w := fun _ _ => by kernel_rfl
theorem goS_err {cols : List Int} : ∀ (e : List Nd) (s : List Int) (er : Int), goS (stepKS cols) s e = .inl er → er = 30
  | [], s, er, h => by simp [goS] at h
  | x :: r, s, er, h => by
    rw [goS] at h
    unfold stepKS at h
    cases hs : stepK cols s x with
    | none => rw [hs] at h; simp at h; exact h.symm
    | some s' => rw [hs] at h; exact goS_err r s' er h

set_option maxHeartbeats 2000000 in
theorem type_few (A A2 : Option Addr) (n c m c2 : Nat) (e : List Nd) (cols : List Int) (w : World) (hn : e.length = n) (hs : SlN w A e) (hmax : n ≤ 100) (hm : cols.length = m) (hs2 : SlI w A2 cols) (hz : ∀ x ∈ e, x.v.s.size ≤ maxLen) :
    Calls Tryz.prog 8 #[.slice A n c, .slice A2 m c2] w fun en w' => en = .returned (.tuple #[.int .i64 (typeR e cols).1, .int .i64 (typeR e cols).2]) ∧ Below w.heap.size w w' := by
  have Hn := Lib.hid hn
  have Hs := Lib.hid hs
  have Hm := Lib.hid hm
  have Hs2 := Lib.hid hs2
  have Hz := Lib.hid hz
  have hT : typeR e cols = match goS (stepKS cols) [] e with
    | .inl er => (0, er)
    | .inr [k] => (k, 0)
    | .inr _ => (0, 30) := by unfold typeR; rw [if_neg (by omega)]
  obtain ⟨R, hR⟩ : ∃ R, typeR e cols = R := ⟨_, rfl⟩
  rw [hR] at hT ⊢
  have HT := Lib.hid hT
  clear hn hs hm hs2 hz hR hT
  have hmf : ∀ (fn : Fn) (first cap : Array Value) (w : World), (Instr.makeFunc fn first cap).run Tryz.prog w = .ok (.func fn first cap) w := fun _ _ _ _ => rfl
  go_enter Tryz.func8, Tryz.ntmps8
  go_wp2_with fail
  have hk0 : Kx (w.alloc (.cells #[.slice none 0 0, .slice A2 m c2] 64)) w.heap.size (.slice none 0 0) (.slice A2 m c2) := Kx.new w _ _
  have hb0 := below_one w (.cells #[.slice none 0 0, .slice A2 m c2] 64)
  refine (run_c 22 (.pointer (some ⟨w.heap.size, 0, none⟩)) enKStep w.heap.size (fun i ks w1 => ks.length ≤ i ∧ ∃ v, Kx w1 w.heap.size v (.slice A2 m c2) ∧ OwnI w1 w.heap.size v ks) (stepKS cols) A n c e [] _ Hn.out (Hs.out.after hb0) hmax (by simp)
    (fun b off hA hne => by rcases Hs.out with h | ⟨b', off', hA', hlt, _⟩
                            · exact absurd h hne
                            · rw [hA] at hA'; cases hA'; exact hlt)
    ⟨Nat.zero_le _, _, hk0, OwnI.nil _ _⟩ (fun i s w1 w2 h hb => ⟨h.1, h.2.choose, h.2.choose_spec.1.after hb, h.2.choose_spec.2.after hb⟩) ?_).mono ?_
  · rintro i ks x w1 hi hx hb ⟨hl, v, hk, ho⟩
    have hbw : Below w.heap.size w w1 := hb0.trans hb
    refine (kstep_c w.heap.size w.heap.size x v A2 m c2 cols ks w1 hk ho (Nat.le_refl _) Hm.out (Hs2.out.after hbw) (by omega) (Hz.out x (List.mem_of_getElem? hx))).mono ?_
    rintro en w2 ⟨hb2, hp⟩
    refine ⟨hb2, ?_⟩
    unfold stepKS
    cases hst : stepK cols ks x with
    | none => rw [hst] at hp; exact ⟨hp, rfl⟩
    | some r => rw [hst] at hp; exact ⟨hp.1, by have := stepK_len hst; omega, hp.2⟩
  · rintro en w1 ⟨hb1, hpost⟩
    have hbw : Below w.heap.size w w1 := hb0.trans hb1
    have Hbw := Lib.hid hbw
    have hT := HT.out
    clear hk0 hb0 hb1 hbw HT
    cases hg : goS (stepKS cols) [] e with
    | inl er =>
      rw [hg] at hpost hT
      subst hpost hT
      obtain rfl := goS_err e [] er hg
      clear hg
      go_wp2
      go_ret2
      exact ⟨rfl, Hbw.out⟩
    | inr ks =>
      rw [hg] at hpost hT
      obtain ⟨rfl, i, _, v, hk, ho⟩ := hpost
      have Hk := Lib.hid hk
      have Ho := Lib.hid ho
      have hlt := hk.lt
      clear hg hk ho
      match ks, hT, Ho with
      | [], hT, Ho =>
        subst hT
        go_wp2_with fail
        refine (result_bad _ [] v _ _ w1 Hk.out Ho.out (by simp)).mono ?_
        rintro en w2 ⟨rfl, rfl⟩
        go_wp2
        go_ret2
        exact ⟨rfl, Hbw.out⟩
      | [k], hT, Ho =>
        subst hT
        go_wp2_with fail
        refine (result_one _ k v _ _ w1 Hk.out Ho.out).mono ?_
        rintro en w2 ⟨rfl, rfl⟩
        go_wp2
        go_ret2
        exact ⟨rfl, Hbw.out⟩
      | a :: b :: r, hT, Ho =>
        subst hT
        go_wp2_with fail
        refine (result_bad _ (a :: b :: r) v _ _ w1 Hk.out Ho.out (by simp)).mono ?_
        rintro en w2 ⟨rfl, rfl⟩
        go_wp2
        go_ret2
        exact ⟨rfl, Hbw.out⟩
set_option maxHeartbeats 2000000 in
theorem type_many (A A2 : Option Addr) (n c m c2 : Nat) (w : World) (hn : 100 < n) (hmax : n ≤ maxLen) :
    Calls Tryz.prog 8 #[.slice A n c, .slice A2 m c2] w fun en w' => en = .returned (.tuple #[.int .i64 0, .int .i64 1]) ∧ Below w.heap.size w w' := by
  have hmf : ∀ (fn : Fn) (first cap : Array Value) (w : World), (Instr.makeFunc fn first cap).run Tryz.prog w = .ok (.func fn first cap) w := fun _ _ _ _ => rfl
  have Hmax := Lib.hid hmax
  clear hmax
  go_enter Tryz.func8, Tryz.ntmps8
  go_wp2_with fail
  refine (run_many _ A n c _ hn Hmax.out).mono ?_
  rintro en w1 ⟨rfl, rfl⟩
  go_wp2
  go_ret2
  exact ⟨rfl, below_one _ _⟩
theorem type_c (A A2 : Option Addr) (n c m c2 : Nat) (e : List Nd) (cols : List Int) (w : World) (hn : e.length = n) (hs : SlN w A e) (hmax : n ≤ maxLen) (hm : cols.length = m) (hs2 : SlI w A2 cols) (hz : ∀ x ∈ e, x.v.s.size ≤ maxLen) :
    Calls Tryz.prog 8 #[.slice A n c, .slice A2 m c2] w fun en w' => en = .returned (.tuple #[.int .i64 (typeR e cols).1, .int .i64 (typeR e cols).2]) ∧ Below w.heap.size w w' := by
  by_cases h : n ≤ 100
  · exact type_few A A2 n c m c2 e cols w hn hs h hm hs2 hz
  · have e1 : typeR e cols = (0, 1) := by unfold typeR; rw [if_pos (by omega)]
    rw [e1]
    exact type_many A A2 n c m c2 w (by omega) hmax
end Go.Proofs.YticofedglhfdpaaGreatDoor
