/-
  The value of an expression, as the program's Eval answers it, and whether it is true, of any expression whose texts are not too long, and any row.
-/
import Derived.Test.YticofedglhfdpaaGreatDoorVStep
import Derived.Test.YticofedglhfdpaaGreatDoorRunE
namespace Go.Proofs.YticofedglhfdpaaGreatDoor
open Go Go.RowKit
set_option maxRecDepth 100000

/-- What Eval answers. -/
def evalR (e : List Nd) (row : List Val) : Val × Int := if 100 < e.length then (nl, 1) else match goS (stepV row) [] e with
  | .inl er => (nl, er)
  | .inr [x] => (x, 0)
  | .inr _ => (nl, 30)
theorem enVStep : ∀ args w, (callFunc 16 args).run Tryz.prog w = .ok (.enter 16 args) w := fun _ _ => by kernel_rfl
theorem stepV_err {row ks : List Val} {x : Nd} {er : Int} (h : stepV row ks x = .inl er) : (er != 0) = true := by
  unfold stepV at h
  split at h
  · cases h
  · rename_i hne
    cases h
    rw [bne]
    simpa using hne
theorem goV_err {row : List Val} : ∀ (e : List Nd) (s : List Val) (er : Int), goS (stepV row) s e = .inl er → (er != 0) = true
  | [], s, er, h => by simp [goS] at h
  | x :: r, s, er, h => by
    rw [goS] at h
    cases hs : stepV row s x with
    | inl er' => rw [hs] at h; cases h; exact stepV_err hs
    | inr s' => rw [hs] at h; exact goV_err r s' er h

set_option maxHeartbeats 4000000 in
theorem eval_few (A A2 : Option Addr) (n c m c2 : Nat) (e : List Nd) (row : List Val) (w : World) (hn : e.length = n) (hs : SlN w A e) (hmax : n ≤ 100) (hm : row.length = m) (hs2 : Sl w A2 row) (hz : ∀ x ∈ e, x.v.s.size ≤ maxLen) :
    Calls Tryz.prog 6 #[.slice A n c, .slice A2 m c2] w fun en w' => en = .returned (.tuple #[(evalR e row).1.v, .int .i64 (evalR e row).2]) ∧ Below w.heap.size w w' := by
  have Hn := Lib.hid hn
  have Hs := Lib.hid hs
  have Hm := Lib.hid hm
  have Hs2 := Lib.hid hs2
  have Hz := Lib.hid hz
  have hT : evalR e row = match goS (stepV row) [] e with
    | .inl er => (nl, er)
    | .inr [x] => (x, 0)
    | .inr _ => (nl, 30) := by unfold evalR; rw [if_neg (by omega)]
  obtain ⟨R, hR⟩ : ∃ R, evalR e row = R := ⟨_, rfl⟩
  rw [hR] at hT ⊢
  have HT := Lib.hid hT
  clear hn hs hm hs2 hz hR hT
  have hmf : ∀ (fn : Fn) (first cap : Array Value) (w : World), (Instr.makeFunc fn first cap).run Tryz.prog w = .ok (.func fn first cap) w := fun _ _ _ _ => rfl
  go_enter Tryz.func6, Tryz.ntmps6
  go_wp2_with fail
  have hk0 : Vx ((w.alloc (.cells #[.int .i64 nl.k, .int .i64 nl.n, .string nl.s] 31)).alloc (.cells #[.slice none 0 0, .slice A2 m c2] 51)) (w.heap.size + 1) (.slice none 0 0) (.slice A2 m c2) := by
    have := Vx.new (w.alloc (.cells #[.int .i64 nl.k, .int .i64 nl.n, .string nl.s] 31)) (.slice none 0 0) (.slice A2 m c2)
    simpa using this
  have hb0 := below_two w (.cells #[.int .i64 nl.k, .int .i64 nl.n, .string nl.s] 31) (.cells #[.slice none 0 0, .slice A2 m c2] 51)
  have hr0 : Bx ((w.alloc (.cells #[.int .i64 nl.k, .int .i64 nl.n, .string nl.s] 31)).alloc (.cells #[.slice none 0 0, .slice A2 m c2] 51)) w.heap.size nl := (Bx.new w nl).alloc _
  refine (run_c 16 (.pointer (some ⟨w.heap.size + 1, 0, none⟩)) enVStep (w.heap.size + 1) (fun i ks w1 => ks.length ≤ i ∧ ∃ v, Vx w1 (w.heap.size + 1) v (.slice A2 m c2) ∧ OwnV w1 (w.heap.size + 1) v ks) (stepV row) A n c e [] _ Hn.out (Hs.out.after hb0) hmax (by simp)
    (fun b off hA hne => by rcases Hs.out with h | ⟨b', off', hA', hlt, _⟩
                            · exact absurd h hne
                            · rw [hA] at hA'; cases hA'; omega)
    ⟨Nat.zero_le _, _, hk0, OwnV.nil _ _⟩ (fun i s w1 w2 h hb => ⟨h.1, h.2.choose, h.2.choose_spec.1.after hb, h.2.choose_spec.2.after hb⟩) ?_).mono ?_
  · rintro i ks x w1 hi hx hb ⟨hl, v, hk, ho⟩
    have hbw : Below w.heap.size w w1 := hb0.trans (hb.mono (by omega))
    refine (vstep_c (w.heap.size + 1) (w.heap.size + 1) x v A2 m c2 row ks w1 hk ho (Nat.le_refl _) Hm.out (Hs2.out.after hbw) (by omega) (Hz.out x (List.mem_of_getElem? hx))).mono ?_
    rintro en w2 ⟨hb2, hp⟩
    refine ⟨hb2, ?_⟩
    cases hst : stepV row ks x with
    | inl er => rw [hst] at hp; exact hp
    | inr r => rw [hst] at hp; exact ⟨hp.1, by have := stepV_len hst; omega, hp.2⟩
  · rintro en w1 ⟨hb1, hpost⟩
    have hbw : Below w.heap.size w w1 := hb0.trans (hb1.mono (by omega))
    have br : Bx w1 w.heap.size nl := hr0.below hb1 (by omega)
    have Hbw := Lib.hid hbw
    have hT := HT.out
    have g0 := br.cell0
    have g1 := br.cell1
    have g2 := br.cell2
    have f0 := br.frozen 0
    have f1 := br.frozen 1
    have f2 := br.frozen 2
    clear hk0 hb0 hb1 hbw hr0 HT
    cases hg : goS (stepV row) [] e with
    | inl er =>
      rw [hg] at hpost hT
      subst hpost hT
      have hne := goV_err e [] er hg
      clear hg
      go_wp2
      exact ret_valX (a := nl) (z := .int .i64 er) Tryz.results6 rfl rfl (br.put nl) rfl ⟨rfl, put3_below Hbw.out (Nat.le_refl _) nl⟩
    | inr ks =>
      rw [hg] at hpost hT
      obtain ⟨rfl, i, _, v, hk, ho⟩ := hpost
      have Hk := Lib.hid hk
      have Ho := Lib.hid ho
      have hlt := hk.lt
      clear hg hk ho g0 g1 g2 f0 f1 f2
      match ks, hT, Ho with
      | [], hT, Ho =>
        subst hT
        go_wp2_with fail
        refine (vresult_bad _ [] v _ _ w1 Hk.out Ho.out (by simp)).mono ?_
        rintro en w2 ⟨rfl, hb2⟩
        have br2 := br.after hb2
        have Hb2 := Lib.hid (Hbw.out.trans (hb2.mono Hbw.out.size))
        have g0 := br2.cell0
        have g1 := br2.cell1
        have g2 := br2.cell2
        have f0 := br2.frozen 0
        have f1 := br2.frozen 1
        have f2 := br2.frozen 2
        clear hb2
        go_wp2
        exact ret_valX (a := nl) (z := .int .i64 30) Tryz.results6 rfl rfl (br2.put nl) rfl ⟨rfl, put3_below Hb2.out (Nat.le_refl _) nl⟩
      | [k], hT, Ho =>
        subst hT
        go_wp2_with fail
        refine (vresult_one _ k v _ _ w1 Hk.out Ho.out).mono ?_
        rintro en w2 ⟨rfl, hb2⟩
        have br2 := br.after hb2
        have Hb2 := Lib.hid (Hbw.out.trans (hb2.mono Hbw.out.size))
        have g0 := br2.cell0
        have g1 := br2.cell1
        have g2 := br2.cell2
        have f0 := br2.frozen 0
        have f1 := br2.frozen 1
        have f2 := br2.frozen 2
        clear hb2
        go_wp2
        exact ret_valX (a := k) (z := .int .i64 0) Tryz.results6 rfl rfl (br2.put k) rfl ⟨rfl, put3_below Hb2.out (Nat.le_refl _) k⟩
      | a :: b :: r, hT, Ho =>
        subst hT
        go_wp2_with fail
        refine (vresult_bad _ (a :: b :: r) v _ _ w1 Hk.out Ho.out (by simp)).mono ?_
        rintro en w2 ⟨rfl, hb2⟩
        have br2 := br.after hb2
        have Hb2 := Lib.hid (Hbw.out.trans (hb2.mono Hbw.out.size))
        have g0 := br2.cell0
        have g1 := br2.cell1
        have g2 := br2.cell2
        have f0 := br2.frozen 0
        have f1 := br2.frozen 1
        have f2 := br2.frozen 2
        clear hb2
        go_wp2
        exact ret_valX (a := nl) (z := .int .i64 30) Tryz.results6 rfl rfl (br2.put nl) rfl ⟨rfl, put3_below Hb2.out (Nat.le_refl _) nl⟩
set_option maxHeartbeats 2000000 in
theorem eval_many (A A2 : Option Addr) (n c m c2 : Nat) (w : World) (hn : 100 < n) (hmax : n ≤ maxLen) :
    Calls Tryz.prog 6 #[.slice A n c, .slice A2 m c2] w fun en w' => en = .returned (.tuple #[nl.v, .int .i64 1]) ∧ Below w.heap.size w w' := by
  have hmf : ∀ (fn : Fn) (first cap : Array Value) (w : World), (Instr.makeFunc fn first cap).run Tryz.prog w = .ok (.func fn first cap) w := fun _ _ _ _ => rfl
  have Hmax := Lib.hid hmax
  clear hmax
  go_enter Tryz.func6, Tryz.ntmps6
  go_wp2_with fail
  refine (run_many _ A n c _ hn Hmax.out).mono ?_
  rintro en w1 ⟨rfl, rfl⟩
  go_wp2
  exact ret_valX (a := nl) (z := .int .i64 1) Tryz.results6 rfl rfl ((Bx.new w nl).alloc _) rfl ⟨rfl, below_two _ _ _⟩
theorem eval_c (A A2 : Option Addr) (n c m c2 : Nat) (e : List Nd) (row : List Val) (w : World) (hn : e.length = n) (hs : SlN w A e) (hmax : n ≤ maxLen) (hm : row.length = m) (hs2 : Sl w A2 row) (hz : ∀ x ∈ e, x.v.s.size ≤ maxLen) :
    Calls Tryz.prog 6 #[.slice A n c, .slice A2 m c2] w fun en w' => en = .returned (.tuple #[(evalR e row).1.v, .int .i64 (evalR e row).2]) ∧ Below w.heap.size w w' := by
  by_cases h : n ≤ 100
  · exact eval_few A A2 n c m c2 e row w hn hs h hm hs2 hz
  · have e1 : evalR e row = (nl, 1) := by unfold evalR; rw [if_pos (by omega)]
    rw [e1]
    exact eval_many A A2 n c m c2 w (by omega) hmax

/-- What True answers. -/
def trueR (e : List Nd) (row : List Val) : Bool × Int := if e.length = 0 then (true, 0) else ((evalR e row).1.eq tt, (evalR e row).2)
set_option maxHeartbeats 2000000 in
theorem true_c (A A2 : Option Addr) (n c m c2 : Nat) (e : List Nd) (row : List Val) (w : World) (hn : e.length = n) (hs : SlN w A e) (hmax : n ≤ maxLen) (hm : row.length = m) (hs2 : Sl w A2 row) (hz : ∀ x ∈ e, x.v.s.size ≤ maxLen) :
    Calls Tryz.prog 12 #[.slice A n c, .slice A2 m c2] w fun en w' => en = .returned (.tuple #[.bool (trueR e row).1, .int .i64 (trueR e row).2]) ∧ Below w.heap.size w w' := by
  have hm' : n ≤ 9223372036854775807 := hmax
  have Hev := Lib.hid (eval_c A A2 n c m c2 e row w hn hs hmax hm hs2 hz)
  by_cases h0 : n = 0
  · have e1 : trueR e row = (true, 0) := by unfold trueR; rw [if_pos (by omega)]
    rw [e1]
    subst h0
    clear e1 hs hs2 hm hz hn hmax hm' Hev
    go_enter Tryz.func12, Tryz.ntmps12
    go_wp2
    go_ret2
    exact ⟨rfl, Below.refl _ _⟩
  · have e1 : trueR e row = ((evalR e row).1.eq tt, (evalR e row).2) := by unfold trueR; rw [if_neg (by omega)]
    rw [e1]
    obtain ⟨⟨v, er⟩, hr⟩ : ∃ r, evalR e row = r := ⟨_, rfl⟩
    rw [hr] at Hev ⊢
    have h1 : ((n : Int) == 0) = false := by simpa using h0
    clear e1 hs hs2 hm hz hn hmax hr
    go_enter Tryz.func12, Tryz.ntmps12
    go_wp2_with fail
    refine Hev.out.mono ?_
    rintro en w1 ⟨rfl, hb1⟩
    have bx := Bx.new w1 v
    have Hb := Lib.hid (hb1.alloc hb1.size (.cells #[.int .i64 v.k, .int .i64 v.n, .string v.s] 31))
    clear hb1 Hev
    go_wp2_with fail
    generalize w1.alloc (.cells #[.int .i64 v.k, .int .i64 v.n, .string v.s] 31) = w2 at bx Hb ⊢
    refine Reg.wp_region_vals mixed (by kernel_rfl) [(17, v.v), (18, tt.v), (19, .bool (v.eq tt)), (20, .int .i64 er), (4, .bool (v.eq tt)), (5, .int .i64 er)] 21 rfl (by kernel_rfl) ?_ ?_
    · intro F hF w' hB'
      have bx' : Bx w' w1.heap.size v := bx.after hB'
      refine ⟨?_, ?_, ?_, ?_, ?_, ?_, trivial⟩
      · exact Reg.doesV_val (ev_load bx' rfl (by rw [hF]; kernel_rfl)) (by rw [hF]; kernel_rfl) (by rw [hF]; kernel_rfl)
      · exact Reg.doesV_call (truth_c true w') (ev_call enTruth rfl (by rw [hF]; kernel_rfl)) (by rw [hF]; kernel_rfl) (by rw [hF]; kernel_rfl)
      · exact Reg.doesV_val (ev_eq v tt rfl (by rw [hF]; kernel_rfl) (by rw [hF]; kernel_rfl)) (by rw [hF]; kernel_rfl) (by rw [hF]; kernel_rfl)
      · exact Reg.doesV_val (ev_move rfl) (by rw [hF]; kernel_rfl) (by rw [hF]; kernel_rfl)
      · exact Reg.doesV_val (ev_assign rfl) (by rw [hF]; kernel_rfl) (by rw [hF]; kernel_rfl)
      · exact Reg.doesV_val (ev_assign rfl) (by rw [hF]; kernel_rfl) (by rw [hF]; kernel_rfl)
    · intro w' hB'
      simp only [Reg.putAll, Act.put, List.setIfInBounds_toArray, List.set_cons_zero, List.set_cons_succ]
      have Hb2 := Lib.hid (Hb.out.trans (hB'.mono Hb.out.size))
      clear hB'
      go_wp2
      go_ret2
      exact ⟨rfl, Hb2.out⟩
end Go.Proofs.YticofedglhfdpaaGreatDoor
