/-
  How many operands a step takes, and the kind of what it leaves, of any step and any kinds, as the program has them.
-/
import Derived.Test.YticofedglhfdpaaGreatDoorMay
namespace Go.Proofs.YticofedglhfdpaaGreatDoor
open Go Go.RowKit
set_option maxRecDepth 100000

/-- The slice at A reads as the numbers ks. -/
def SlI (w : World) (A : Option Addr) (ks : List Int) : Prop :=
  ks = [] ∨ ∃ b off, A = some ⟨b, off, none⟩ ∧ b < w.heap.size ∧ ∀ i (k : Int), ks[i]? = some k → w.cell? ⟨b, off + i, none⟩ = some (.int .i64 k)
theorem SlI.after {w w' : World} {A : Option Addr} {ks : List Int} (h : SlI w A ks) (hb : Below w.heap.size w w') : SlI w' A ks := by
  rcases h with h | ⟨b, off, hA, hlt, h⟩
  · exact .inl h
  · exact .inr ⟨b, off, hA, Nat.lt_of_lt_of_le hlt hb.size, fun i k hk => (hb.cell hlt).trans (h i k hk)⟩
theorem SlI.below {w w' : World} {A : Option Addr} {ks : List Int} {B : Nat} (h : SlI w A ks) (hb : Below B w w') (hlt : ∀ a, A = some a → a.block < B) : SlI w' A ks := by
  rcases h with h | ⟨b, off, hA, hlt', h⟩
  · exact .inl h
  · have hl : b < B := hlt _ hA
    exact .inr ⟨b, off, hA, Nat.lt_of_lt_of_le hlt' hb.size, fun i k hk => (hb.cell hl).trans (h i k hk)⟩

/-- How many operands a step takes. -/
def takes (op : Int) : Nat := if 2 ≤ op ∧ op ≤ 8 then 2 else if op = 9 ∨ op = 10 then 1 else 0
theorem ops_cases (op : Int) : op = 2 ∨ op = 3 ∨ op = 4 ∨ op = 5 ∨ op = 6 ∨ op = 7 ∨ op = 8 ∨ op = 9 ∨ op = 10 ∨ ((op == 2) = false ∧ (op == 3) = false ∧ (op == 4) = false ∧ (op == 5) = false ∧ (op == 6) = false ∧ (op == 7) = false ∧ (op == 8) = false ∧ (op == 9) = false ∧ (op == 10) = false) := by
  simp only [beq_eq_false_iff_ne]
  omega
theorem takes_le (op : Int) : takes op ≤ 2 := by unfold takes; split <;> (try split) <;> omega

set_option maxHeartbeats 1000000 in
theorem operands_c (op : Int) (w : World) : Calls Tryz.prog 47 #[.int .i64 op] w fun e w' => e = .returned (.int .i64 (takes op)) ∧ w' = w := by
  rcases ops_cases op with rfl | rfl | rfl | rfl | rfl | rfl | rfl | rfl | rfl | ⟨h2, h3, h4, h5, h6, h7, h8, h9, h10⟩
  all_goals first
    | (go_enter Tryz.func47, Tryz.ntmps47
       go_wp2
       go_ret
       exact ⟨rfl, rfl⟩)
    | skip
  have e : takes op = 0 := by
    simp only [beq_eq_false_iff_ne] at h2 h3 h4 h5 h6 h7 h8 h9 h10
    unfold takes
    rw [if_neg (by omega), if_neg (by omega)]
  rw [e]
  go_enter Tryz.func47, Tryz.ntmps47
  go_wp2
  go_ret
  exact ⟨rfl, rfl⟩

/-- Whether all kinds are this one, or null. -/
def fitB (kind : Int) : List Int → Bool
  | [] => true
  | k :: r => !(k != kind && k != 0) && fitB kind r
theorem fit_drop (kind : Int) (ks : List Int) (i : Nat) (k : Int) (h : ks[i]? = some k) : fitB kind (ks.drop i) = (!(k != kind && k != 0) && fitB kind (ks.drop (i + 1))) := by
  have hlt : i < ks.length := (List.getElem?_eq_some_iff.1 h).1
  have hv : ks[i] = k := (List.getElem?_eq_some_iff.1 h).2
  rw [List.drop_eq_getElem_cons hlt, hv, fitB]

set_option maxHeartbeats 2000000 in
theorem fit_c (kind : Int) (A : Option Addr) (n c : Nat) (ks : List Int) (w : World) (hn : ks.length = n) (hmax : n ≤ 1000) (hs : SlI w A ks) :
    Calls Tryz.prog 69 #[.int .i64 kind, .slice A n c] w fun e w' => e = .returned (.bool (fitB kind ks)) ∧ w' = w := by
  have Hn := Lib.hid hn
  have Hs := Lib.hid hs
  clear hn hs
  go_enter Tryz.func69, Tryz.ntmps69
  go_wp2_with fail
  go_loopw [9] (fun i wr => ∃ k : Nat, k ≤ n ∧ i = .int .i64 k ∧ wr = w ∧ Hid (fitB kind (ks.drop k) = fitB kind ks)) (fun i _ => n - (intOf i).toNat)
  case atStart => exact ⟨0, Nat.zero_le _, rfl, rfl, rfl⟩
  case round =>
    obtain ⟨k, hk, rfl, rfl, hinv⟩ := hrel
    by_cases hlt' : k < n
    · obtain ⟨v, hv⟩ : ∃ v, ks[k]? = some v := ⟨ks[k]'(by rw [Hn.out]; exact hlt'), List.getElem?_eq_getElem _⟩
      rcases Hs.out with h0 | ⟨b, off, rfl, hlt, hc⟩
      · rw [h0] at hv; simp at hv
      have c0 := hc k v hv
      have hstep := fit_drop kind ks k v hv
      clear hc hv
      cases h1 : v != kind
      · have Hst := Lib.hid (hstep.symm.trans hinv.out)
        rw [h1] at Hst
        clear hstep
        go_wp2
        go_roundw
        case rel => exact ⟨k + 1, by omega, by go_num, trivial, Lib.hid (by have := Hst.out; simpa using this)⟩
        case measure => simp [intOf]; omega
      · cases h2 : v != 0
        · have Hst := Lib.hid (hstep.symm.trans hinv.out)
          rw [h1, h2] at Hst
          clear hstep
          go_wp2
          go_roundw
          case rel => exact ⟨k + 1, by omega, by go_num, trivial, Lib.hid (by have := Hst.out; simpa using this)⟩
          case measure => simp [intOf]; omega
        · have Hst := Lib.hid (hstep.symm.trans hinv.out)
          rw [h1, h2] at Hst
          clear hstep
          go_wp2
          go_ret
          exact ⟨by rw [← Hst.out]; rfl, rfl⟩
    · have hkn : k = n := by omega
      have hstep := hinv.out
      rw [List.drop_eq_nil_of_le (by rw [Hn.out]; omega)] at hstep
      have Hst := Lib.hid hstep
      clear hstep
      go_wp2
      go_ret
      exact ⟨by rw [← Hst.out]; rfl, rfl⟩

/-- The kind of what a step leaves of operands of these kinds, and whether they fit. -/
def kindR (op : Int) (ks : List Int) : Int × Bool :=
  if op == 2 || op == 3 || op == 4 then (2, fitB 2 ks) else if op == 5 || op == 6 then (1, fitB (ks.getD 0 0) ks || fitB (ks.getD 1 0) ks) else if op == 7 || op == 8 || op == 9 then (1, fitB 1 ks) else if op == 10 then (1, true) else (0, false)

set_option maxHeartbeats 2000000 in
theorem kindOf_cmp (op : Int) (hop : op = 5 ∨ op = 6) (A : Option Addr) (c : Nat) (x y : Int) (w : World) (hs : SlI w A [x, y]) :
    Calls Tryz.prog 55 #[.int .i64 op, .slice A 2 c] w fun e w' => e = .returned (.tuple #[.int .i64 1, .bool (fitB x [x, y] || fitB y [x, y])]) ∧ w' = w := by
  have Hs := Lib.hid hs
  rcases hs with h0 | ⟨b, off, rfl, hlt, hc⟩
  · cases h0
  have c0 := hc 0 x rfl
  have c1 := hc 1 y rfl
  rw [Nat.add_zero] at c0
  clear hc
  obtain ⟨f1, hf1⟩ : ∃ f1, fitB x [x, y] = f1 := ⟨_, rfl⟩
  obtain ⟨f2, hf2⟩ : ∃ f2, fitB y [x, y] = f2 := ⟨_, rfl⟩
  rw [hf1, hf2]
  have H1 := Lib.hid hf1
  have H2 := Lib.hid hf2
  clear hf1 hf2
  rcases hop with rfl | rfl
  all_goals
    go_enter Tryz.func55, Tryz.ntmps55
    go_wp2_with fail
    refine (fit_c x _ 2 c [x, y] w rfl (by decide) Hs.out).mono ?_
    rintro e w1 ⟨rfl, rfl⟩
    rw [H1.out]
    cases f1
    · go_wp2_with fail
      refine (fit_c y _ 2 c [x, y] w1 rfl (by decide) Hs.out).mono ?_
      rintro e w1 ⟨rfl, rfl⟩
      rw [H2.out]
      go_wp2
      go_ret2
      exact ⟨rfl, rfl⟩
    · go_wp2
      go_ret2
      exact ⟨rfl, rfl⟩

set_option maxHeartbeats 2000000 in
theorem kindOf_one (op kind : Int) (hop : (kind = 2 ∧ (op = 2 ∨ op = 3 ∨ op = 4)) ∨ (kind = 1 ∧ (op = 7 ∨ op = 8 ∨ op = 9))) (A : Option Addr) (n c : Nat) (ks : List Int) (w : World) (hn : ks.length = n) (hmax : n ≤ 1000) (hs : SlI w A ks) :
    Calls Tryz.prog 55 #[.int .i64 op, .slice A n c] w fun e w' => e = .returned (.tuple #[.int .i64 kind, .bool (fitB kind ks)]) ∧ w' = w := by
  obtain ⟨f1, hf1⟩ : ∃ f1, fitB kind ks = f1 := ⟨_, rfl⟩
  rw [hf1]
  have H1 := Lib.hid hf1
  have Hn := Lib.hid hn
  have Hs := Lib.hid hs
  clear hf1 hn hs
  rcases hop with ⟨rfl, rfl | rfl | rfl⟩ | ⟨rfl, rfl | rfl | rfl⟩
  all_goals
    go_enter Tryz.func55, Tryz.ntmps55
    go_wp2_with fail
    refine (fit_c _ _ n c ks w Hn.out hmax Hs.out).mono ?_
    rintro e w1 ⟨rfl, rfl⟩
    rw [H1.out]
    go_wp2
    go_ret2
    exact ⟨rfl, rfl⟩
set_option maxHeartbeats 2000000 in
theorem kindOf_null (A : Option Addr) (n c : Nat) (w : World) :
    Calls Tryz.prog 55 #[.int .i64 10, .slice A n c] w fun e w' => e = .returned (.tuple #[.int .i64 1, .bool true]) ∧ w' = w := by
  go_enter Tryz.func55, Tryz.ntmps55
  go_wp2
  go_ret2
  exact ⟨rfl, rfl⟩
set_option maxHeartbeats 2000000 in
theorem kindOf_other (op : Int) (A : Option Addr) (n c : Nat) (w : World) (h2 : (op == 2) = false) (h3 : (op == 3) = false) (h4 : (op == 4) = false) (h5 : (op == 5) = false) (h6 : (op == 6) = false) (h7 : (op == 7) = false) (h8 : (op == 8) = false) (h9 : (op == 9) = false) (h10 : (op == 10) = false) :
    Calls Tryz.prog 55 #[.int .i64 op, .slice A n c] w fun e w' => e = .returned (.tuple #[.int .i64 0, .bool false]) ∧ w' = w := by
  go_enter Tryz.func55, Tryz.ntmps55
  go_wp2
  go_ret2
  exact ⟨rfl, rfl⟩
theorem kindOf_c (op : Int) (A : Option Addr) (n c : Nat) (ks : List Int) (w : World) (hn : ks.length = n) (ht : ks.length = takes op) (hs : SlI w A ks) :
    Calls Tryz.prog 55 #[.int .i64 op, .slice A n c] w fun e w' => e = .returned (.tuple #[.int .i64 (kindR op ks).1, .bool (kindR op ks).2]) ∧ w' = w := by
  have hmax : n ≤ 1000 := by have := takes_le op; omega
  rcases ops_cases op with rfl | rfl | rfl | rfl | rfl | rfl | rfl | rfl | rfl | ⟨h2, h3, h4, h5, h6, h7, h8, h9, h10⟩
  · exact kindOf_one 2 2 (.inl ⟨rfl, .inl rfl⟩) A n c ks w hn hmax hs
  · exact kindOf_one 3 2 (.inl ⟨rfl, .inr (.inl rfl)⟩) A n c ks w hn hmax hs
  · exact kindOf_one 4 2 (.inl ⟨rfl, .inr (.inr rfl)⟩) A n c ks w hn hmax hs
  · match ks, ht with
    | [x, y], _ => subst hn; exact kindOf_cmp 5 (.inl rfl) A c x y w hs
  · match ks, ht with
    | [x, y], _ => subst hn; exact kindOf_cmp 6 (.inr rfl) A c x y w hs
  · exact kindOf_one 7 1 (.inr ⟨rfl, .inl rfl⟩) A n c ks w hn hmax hs
  · exact kindOf_one 8 1 (.inr ⟨rfl, .inr (.inl rfl)⟩) A n c ks w hn hmax hs
  · exact kindOf_one 9 1 (.inr ⟨rfl, .inr (.inr rfl)⟩) A n c ks w hn hmax hs
  · exact kindOf_null A n c w
  · have e : kindR op ks = (0, false) := by simp [kindR, h2, h3, h4, h5, h6, h7, h8, h9, h10]
    rw [e]
    exact kindOf_other op A n c w h2 h3 h4 h5 h6 h7 h8 h9 h10
end Go.Proofs.YticofedglhfdpaaGreatDoor
