/-
  The value that stands at a place, as the document takes it, of any text that is not too long.
-/
import Derived.Test.YtkbgcgkblbbcbaaDoorREnc
import Derived.Test.YtkbgcgkblbbcbaaDoorApartW
import Derived.Test.YtkbgcgkblbbcbaaDoorRegJ
namespace Go.Proofs.YtkbgcgkblbbcbaaDoor
open Go Go.RowKit

theorem enRMay1 : ∀ args w, (callFunc 26 args).run Tryd.prog w = .ok (.enter 26 args) w := fun _ _ => by kernel_rfl
/-- What stays while take's last statement runs. -/
def TakeJ (w : World) (x : Val) (w' : World) : Prop := (∃ z, Bx w' w.heap.size z) ∧ Bx w' (w.heap.size + 1) x ∧ Below w.heap.size w w'
theorem TakeJ.after {w w' w'' : World} {x : Val} (h : TakeJ w x w') (hb : Below w'.heap.size w' w'') : TakeJ w x w'' := by
  obtain ⟨⟨z, h4⟩, h7, hw⟩ := h
  exact ⟨⟨z, h4.after hb⟩, h7.after hb, hw.trans (hb.mono hw.size)⟩
theorem TakeJ.put {w w' : World} {x z a : Val} (h : TakeJ w x w') (h4 : Bx w' w.heap.size z) : TakeJ w x (put3 w' w.heap.size a) := by
  obtain ⟨_, h7, hw⟩ := h
  exact ⟨⟨a, h4.put a⟩, put3_other h7 (by omega), put3_below hw (Nat.le_refl _) a⟩
/-- take, at its return. -/
theorem take_ret {R : Ending → World → Prop} {F : Act} {w : World} {b : Nat} {a : Val} {p : Int} {ok : Bool} (hb : Bx w b a) (h4 : Reg.slot F 4 = .pointer (some ⟨b, 0, none⟩)) (h5 : Reg.slot F 5 = .int .i64 p) (h6 : Reg.slot F 6 = .bool ok) (hd : F.defers = [])
    (hR : R (.returned (.tuple #[a.v, .int .i64 p, .bool ok])) w) : bodyPost Tryd.prog Tryd.f19 R .ret F w := by
  have c0 := hb.cell0
  have c1 := hb.cell1
  have c2 := hb.cell2
  refine bodyPost_ret (v := .tuple #[a.v, .int .i64 p, .bool ok]) ?_ hd hR
  have h4' : F.tmps[4]?.getD undef = .pointer (some ⟨b, 0, none⟩) := by simpa [Reg.slot] using h4
  have h5' : F.tmps[5]?.getD undef = .int .i64 p := by simpa [Reg.slot] using h5
  have h6' : F.tmps[6]?.getD undef = .bool ok := by simpa [Reg.slot] using h6
  simp [results, Tryd.results19, h4', h5', h6', go_sem, c0, c1, c2]
/-- What take answers. -/
def TakePost (s : ByteArray) (a : Nat) (w : World) (e : Ending) (w' : World) : Prop :=
  Below w.heap.size w w' ∧ ∃ (x : Val) (p : Nat), e = .returned (.tuple #[x.v, .int .i64 (p : Int), .bool (rmB x && decide (p ≤ s.size))]) ∧ In64 x ∧ a < p ∧ ∀ y r, cut1 (s.data.toList.drop a) = some (y, r) → x = y ∧ p + r.length = s.size

theorem drop_at (s : ByteArray) (a : Nat) (h : a < s.size) : s.data.toList.drop a = s[a] :: s.data.toList.drop (a + 1) := List.drop_eq_getElem_cons h
theorem drop_len (s : ByteArray) (a : Nat) : (s.data.toList.drop a).length = s.size - a := by rw [List.length_drop]; rfl
theorem byte_is (t : UInt8) (k : Nat) (hk : k < 256) (h : (t.toNat : Int) = (k : Int)) : t = UInt8.ofNat k := UInt8.toNat_inj.1 (by rw [UInt8.toNat_ofNat']; omega)
theorem post_o (s : ByteArray) (a : Nat) (ha : a < s.size) (h2 : (s[a].toNat : Int) ≠ 2) (h3 : (s[a].toNat : Int) ≠ 3) (h4 : (s[a].toNat : Int) ≠ 4) : ∀ y r, cut1 (s.data.toList.drop a) = some (y, r) → (⟨(s[a].toNat : Int) - 1, 0, emp⟩ : Val) = y ∧ a + 1 + r.length = s.size := by
  intro y r h
  rw [drop_at s a ha, cut1] at h
  have n2 : s[a] ≠ 2 := fun e => h2 (by rw [e]; rfl)
  have n3 : s[a] ≠ 3 := fun e => h3 (by rw [e]; rfl)
  have n4 : s[a] ≠ 4 := fun e => h4 (by rw [e]; rfl)
  rw [if_neg n2, if_neg n3, if_neg n4] at h
  split at h
  · rename_i h1
    obtain ⟨_, rfl, rfl⟩ := chk_some h
    rw [drop_len]
    refine ⟨?_, by omega⟩
    rw [h1]
    rfl
  · cases h
theorem post_2s (s : ByteArray) (a : Nat) (x : Val) (p : Nat) (ha : a < s.size) (h2 : (s[a].toNat : Int) = 2) (hn : ¬ a + 1 < s.size) : ∀ y r, cut1 (s.data.toList.drop a) = some (y, r) → x = y ∧ p + r.length = s.size := by
  intro y r h
  rw [drop_at s a ha, byte_is _ 2 (by omega) h2, cut1_2s _ (by rw [drop_len]; omega)] at h
  cases h
theorem post_2 (s : ByteArray) (a : Nat) (ha : a < s.size) (h2 : (s[a].toNat : Int) = 2) (hn : a + 1 < s.size) : ∀ y r, cut1 (s.data.toList.drop a) = some (y, r) → (⟨1, (s[a + 1].toNat : Int), emp⟩ : Val) = y ∧ a + 2 + r.length = s.size := by
  intro y r h
  rw [drop_at s a ha, byte_is _ 2 (by omega) h2, cut1_2 _ (by rw [drop_len]; omega)] at h
  obtain ⟨_, rfl, rfl⟩ := chk_some h
  rw [List.drop_drop, drop_len]
  refine ⟨?_, by omega⟩
  rw [drop_at s (a + 1) hn]
  have e : numB ((s[a + 1] :: s.data.toList.drop (a + 1 + 1)).take 1) = s[a + 1].toNat := by
    rw [List.take_succ_cons, List.take_zero, numB_cons]
    simp [numB]
  rw [e]
theorem post_3s (s : ByteArray) (a : Nat) (x : Val) (p : Nat) (ha : a < s.size) (h3 : (s[a].toNat : Int) = 3) (hn : ¬ a + 9 ≤ s.size) : ∀ y r, cut1 (s.data.toList.drop a) = some (y, r) → x = y ∧ p + r.length = s.size := by
  intro y r h
  rw [drop_at s a ha, byte_is _ 3 (by omega) h3, cut1_3s _ (by rw [drop_len]; omega)] at h
  cases h
theorem post_3 (s : ByteArray) (a : Nat) (ha : a < s.size) (h3 : (s[a].toNat : Int) = 3) (hn : a + 9 ≤ s.size) : ∀ y r, cut1 (s.data.toList.drop a) = some (y, r) → (⟨2, (numB ((s.data.toList.drop (a + 1)).take 8) : Int) - 9223372036854775808, emp⟩ : Val) = y ∧ a + 9 + r.length = s.size := by
  intro y r h
  rw [drop_at s a ha, byte_is _ 3 (by omega) h3, cut1_3 _ (by rw [drop_len]; omega)] at h
  obtain ⟨_, rfl, rfl⟩ := chk_some h
  rw [List.drop_drop, drop_len]
  exact ⟨rfl, by omega⟩
/-- How the document reads a text: its bytes, and how many there are. -/
def scanT : List UInt8 → List UInt8 × Nat
  | [] => ([], 0)
  | [_] => ([], 0)
  | b :: c :: r => if b == 0 && c == 1 then ([], 0) else if b == 0 then (b :: (scanT r).1, (scanT r).2 + 2) else (b :: (scanT (c :: r)).1, (scanT (c :: r)).2 + 1)
theorem scan_cut : ∀ (n : Nat) (q x r : List UInt8), q.length ≤ n → cutT q = some (x, r) → (scanT q).1 = x ∧ (scanT q).2 + 2 + r.length = q.length := by
  intro n
  induction n with
  | zero =>
    intro q x r hl h
    have : q = [] := List.eq_nil_of_length_eq_zero (by omega)
    subst this
    simp [cutT] at h
  | succ n ih =>
    intro q x r hl h
    match q, hl, h with
    | [], _, h => simp [cutT] at h
    | [_], _, h => simp [cutT] at h
    | b :: c :: q, hl, h =>
      rw [cutT] at h
      split at h
      · rename_i hb
        have hb0 : (b == 0) = false := by simpa using hb
        cases hc : cutT (c :: q) with
        | none => rw [hc] at h; cases h
        | some z =>
          obtain ⟨t', r'⟩ := z
          rw [hc] at h
          simp at h
          obtain ⟨i1, i2⟩ := ih (c :: q) t' r' (by simpa using hl) hc
          rw [scanT, hb0]
          simp only [Bool.false_and, Bool.false_eq_true, if_false, List.length_cons] at i2 ⊢
          rw [i1, ← h.1, ← h.2]
          exact ⟨rfl, by omega⟩
      · rename_i hb
        have hb0 : b = 0 := by simpa using hb
        subst hb0
        split at h
        · rename_i hc255
          have : c = 255 := by simpa using hc255
          subst this
          cases hc : cutT q with
          | none => rw [hc] at h; cases h
          | some z =>
            obtain ⟨t', r'⟩ := z
            rw [hc] at h
            simp at h
            obtain ⟨i1, i2⟩ := ih q t' r' (by simp only [List.length_cons] at hl; omega) hc
            rw [scanT]
            have e1 : ((0 : UInt8) == 0 && (255 : UInt8) == 1) = false := by decide
            have e2 : ((0 : UInt8) == 0) = true := by decide
            rw [e1, e2]
            simp only [Bool.false_eq_true, if_false, if_true, List.length_cons]
            rw [i1, ← h.1, ← h.2]
            exact ⟨rfl, by omega⟩
        · split at h
          · rename_i hc1
            have : c = 1 := by simpa using hc1
            subst this
            simp at h
            rw [scanT]
            have e1 : ((0 : UInt8) == 0 && (1 : UInt8) == 1) = true := by decide
            rw [e1, h.1, ← h.2]
            simp
            omega
          · cases h
theorem post_4 (s : ByteArray) (a : Nat) (x : List UInt8) (n : Nat) (ha : a < s.size) (h4 : (s[a].toNat : Int) = 4) (hx : scanT (s.data.toList.drop (a + 1)) = (x, n)) : ∀ y r, cut1 (s.data.toList.drop a) = some (y, r) → (⟨3, 0, ⟨x.toArray⟩⟩ : Val) = y ∧ a + 1 + n + 2 + r.length = s.size := by
  intro y r h
  rw [drop_at s a ha, byte_is _ 4 (by omega) h4] at h
  cases hc : cutT (s.data.toList.drop (a + 1)) with
  | none => rw [cut1_4s _ hc] at h; cases h
  | some z =>
    obtain ⟨t, q⟩ := z
    rw [cut1_4 _ _ _ hc] at h
    obtain ⟨_, rfl, rfl⟩ := chk_some h
    obtain ⟨i1, i2⟩ := scan_cut _ _ _ _ (Nat.le_refl _) hc
    rw [hx] at i1 i2
    simp only at i1 i2
    rw [drop_len] at i2
    rw [i1]
    exact ⟨rfl, by omega⟩
theorem add_byte (u b : Nat) (hu : u < 72057594037927936) (hb : b < 256) : IntKind.u64.wrap (IntKind.u64.wrap (256 * (u : Int)) + IntKind.u64.wrap (b : Int)) = ((u * 256 + b : Nat) : Int) := by
  rw [IntKind.wrap_u64, IntKind.wrap_u64, IntKind.wrap_u64]
  omega
theorem byte64 (k : Int) (t : UInt8) : In64 ⟨k, (t.toNat : Int), emp⟩ := by
  have := t.toNat_lt
  unfold In64
  simp only
  omega
theorem num64 (u : Nat) (h : u < 18446744073709551616) : In64 ⟨2, (u : Int) - 9223372036854775808, emp⟩ := by
  unfold In64
  simp only
  omega
theorem take_next (s : ByteArray) (a k : Nat) (h : a + k < s.size) : (s.data.toList.drop a).take (k + 1) = (s.data.toList.drop a).take k ++ [s[a + k]] := by
  rw [List.take_add_one, List.getElem?_drop, List.getElem?_eq_getElem (show a + k < s.data.toList.length from h)]
  rfl
theorem scan_end (q : List UInt8) (h : ∀ b c r, q = b :: c :: r → b = 0 ∧ c = 1) : scanT q = ([], 0) := by
  match q, h with
  | [], _ => rfl
  | [_], _ => rfl
  | b :: c :: r, h =>
    obtain ⟨rfl, rfl⟩ := h b c r rfl
    rfl
theorem scan_zero (c : UInt8) (r : List UInt8) (h : c ≠ 1) : scanT (0 :: c :: r) = (0 :: (scanT r).1, (scanT r).2 + 2) := by
  have e : ((0 : UInt8) == 0 && c == 1) = false := by simpa using h
  rw [scanT, e]
  rfl
theorem scan_byte (b c : UInt8) (r : List UInt8) (h : b ≠ 0) : scanT (b :: c :: r) = (b :: (scanT (c :: r)).1, (scanT (c :: r)).2 + 1) := by
  have e : (b == 0) = false := by simpa using h
  rw [scanT, e]
  rfl
theorem extract_one (s : ByteArray) (k : Nat) (h : k < s.size) : s.extract k (k + 1) = ⟨[s[k]].toArray⟩ := by
  have e : (s.data.toList.drop k).take (k + 1 - k) = [s[k]] := by
    rw [show k + 1 - k = 1 by omega, drop_at s k h]
    rfl
  rw [Lib.extract_eq, e]
/-- What is known at each round of the document's reading of a text. -/
def ScanRel (s : ByteArray) (a : Nat) (w : World) (A : Nat) (wr : World) : Prop :=
  A ≤ s.size ∧ Below w.heap.size w wr ∧ (∃ z, Bx wr w.heap.size z) ∧ ∃ S n, a + 1 + n = A ∧ S.length ≤ n ∧ Bx wr (w.heap.size + 1) ⟨3, 0, ⟨S.toArray⟩⟩ ∧ scanT (s.data.toList.drop (a + 1)) = (S ++ (scanT (s.data.toList.drop A)).1, n + (scanT (s.data.toList.drop A)).2)
theorem below_set {w w' : World} {i : Nat} {v : Value} (h : Below w.heap.size w w') : Below w.heap.size w (w'.setCell ⟨w.heap.size + 1, i, none⟩ v).drew := by
  have h' : Below w.heap.size w (w'.setCell ⟨w.heap.size + 1, i, none⟩ v) := h.setCell (by simp) _
  exact ⟨h'.os, h'.tape, h'.output, h'.size, h'.block⟩
theorem Bx.other {w : World} {b c i : Nat} {x : Val} {v : Value} (h : Bx w c x) (hne : c ≠ b) : Bx (w.setCell ⟨b, i, none⟩ v) c x := by
  unfold Bx at *
  rw [Below.heap_setCell _ _ _ _ (by exact hne), h]
theorem z64 (x : Val) (h : x.n = 0) : In64 x := by unfold In64; rw [h]; omega

set_option maxRecDepth 100000 in
set_option maxHeartbeats 8000000 in
theorem take_other (s : ByteArray) (a : Nat) (w : World) (hs : s.size ≤ 100000) (ha : a < s.size) (h2 : (s[a].toNat : Int) ≠ 2) (h3 : (s[a].toNat : Int) ≠ 3) (h4 : (s[a].toNat : Int) ≠ 4) : Calls Tryd.prog 19 #[.string s, .int .i64 a] w (TakePost s a w) := by
  have hbt := s[a].toNat_lt
  have Hpost := Lib.hid (post_o s a ha h2 h3 h4)
  have Hap := Lib.hid (show a < a + 1 by omega)
  have o1 : (((s[a].toNat : Int) - 1) == 1) = false := by simpa using (by omega : ¬ ((s[a].toNat : Int) - 1 = 1))
  have o2 : (((s[a].toNat : Int) - 1) == 2) = false := by simpa using (by omega : ¬ ((s[a].toNat : Int) - 1 = 2))
  have o3 : (((s[a].toNat : Int) - 1) == 3) = false := by simpa using (by omega : ¬ ((s[a].toNat : Int) - 1 = 3))
  go_enter Tryd.func19, Tryd.ntmps19
  go_wp2_with fail
  have e1 : ((a : Int) + 1) = ((a + 1 : Nat) : Int) := rfl
  rw [e1]
  clear e1
  have b4 : Bx ((w.alloc (.cells #[.int .i64 0, .int .i64 0, .string emp] 32)).alloc (.cells #[.int .i64 ((s[a].toNat : Int) - 1), .int .i64 0, .string emp] 32)) w.heap.size nl := (Bx.new w nl).alloc _
  have b7 : Bx ((w.alloc (.cells #[.int .i64 0, .int .i64 0, .string emp] 32)).alloc (.cells #[.int .i64 ((s[a].toNat : Int) - 1), .int .i64 0, .string emp] 32)) (w.heap.size + 1) ⟨(s[a].toNat : Int) - 1, 0, emp⟩ := Bx.new1 w ⟨(s[a].toNat : Int) - 1, 0, emp⟩ _
  have hb := below_two w (.cells #[.int .i64 0, .int .i64 0, .string emp] 32) (.cells #[.int .i64 ((s[a].toNat : Int) - 1), .int .i64 0, .string emp] 32)
  generalize ((w.alloc (.cells #[.int .i64 0, .int .i64 0, .string emp] 32)).alloc (.cells #[.int .i64 ((s[a].toNat : Int) - 1), .int .i64 0, .string emp] 32)) = w1 at b4 b7 hb ⊢
  have JJ : TakeJ w (⟨(s[a].toNat : Int) - 1, 0, emp⟩ : Val) w1.drew := ⟨⟨_, b4⟩, b7, ⟨hb.os, hb.tape, hb.output, hb.size, hb.block⟩⟩
  obtain ⟨rb, hrb⟩ : ∃ rb, rmB (⟨(s[a].toNat : Int) - 1, 0, emp⟩ : Val) = rb := ⟨_, rfl⟩
  have Hrb := Lib.hid hrb
  obtain ⟨lb, hlb⟩ : ∃ lb, decide ((a + 1) ≤ s.size) = lb := ⟨_, rfl⟩
  have Hlb := Lib.hid hlb
  clear hrb hlb
  cases rb
  · refine RegJ.wp_region_keep mixed (by kernel_rfl) (TakeJ w (⟨(s[a].toNat : Int) - 1, 0, emp⟩ : Val)) (fun w' => Bx w' w.heap.size (⟨(s[a].toNat : Int) - 1, 0, emp⟩ : Val)) 10 (of_decide_eq_true (by kernel_rfl)) JJ [(104, (⟨(s[a].toNat : Int) - 1, 0, emp⟩ : Val).v), (105, .int .i64 ((a + 1 : Nat) : Int)), (106, (⟨(s[a].toNat : Int) - 1, 0, emp⟩ : Val).v), (107, .bool false), (108, .bool false), (109, undef), (110, undef), (111, undef), (112, undef), (113, .bool false), (5, .int .i64 ((a + 1 : Nat) : Int)), (6, .bool false)] 114 rfl (by kernel_rfl) ?_ ?_
    · intro F hF w' hJ
      obtain ⟨⟨z, q4⟩, q7, qb⟩ := id hJ
      refine ⟨?_, ?_, ?_, ?_, ?_, ?_, ?_, ?_, ?_, ?_, ?_, ?_, ?_, trivial⟩
      · exact RegJ.doesP_val (by decide) hJ (ev_load q7 rfl (by rw [hF]; kernel_rfl)) (by rw [hF]; kernel_rfl) (by rw [hF]; kernel_rfl)
      · exact RegJ.doesP_val (by decide) hJ (ev_move rfl) (by rw [hF]; kernel_rfl) (by rw [hF]; kernel_rfl)
      · exact RegJ.doesP_val (by decide) hJ (ev_load q7 rfl (by rw [hF]; kernel_rfl)) (by rw [hF]; kernel_rfl) (by rw [hF]; kernel_rfl)
      · exact RegJ.doesP_call (by decide) (fun w'' hw'' => hJ.after hw'') (fun w'' hw'' h => h.after hw'') (by have h := rmay_c (⟨(s[a].toNat : Int) - 1, 0, emp⟩ : Val) w' (by unfold maxLen; show (0 : Nat) ≤ _; omega); rw [Hrb.out] at h; exact h) (ev_call enRMay1 rfl (by rw [hF]; kernel_rfl)) (by rw [hF]; kernel_rfl) (by rw [hF]; kernel_rfl)
      · exact RegJ.doesP_val (by decide) hJ (ev_move rfl) (by rw [hF]; kernel_rfl) (by rw [hF]; kernel_rfl)
      · exact RegJ.doesP_skip (by decide) (by rw [hF]; kernel_rfl) (by rw [hF]; kernel_rfl)
      · exact RegJ.doesP_skip (by decide) (by rw [hF]; kernel_rfl) (by rw [hF]; kernel_rfl)
      · exact RegJ.doesP_skip (by decide) (by rw [hF]; kernel_rfl) (by rw [hF]; kernel_rfl)
      · exact RegJ.doesP_skip (by decide) (by rw [hF]; kernel_rfl) (by rw [hF]; kernel_rfl)
      · exact RegJ.doesP_val (by decide) hJ (ev_pick false rfl (by rw [hF]; kernel_rfl)) (by rw [hF]; kernel_rfl) (by rw [hF]; kernel_rfl)
      · exact RegJ.doesP_store (hJ.put q4) (q4.put _) (ev_store q4 rfl (by rw [hF]; kernel_rfl) (by rw [hF]; kernel_rfl)) rfl (by rw [hF]; kernel_rfl)
      · exact RegJ.doesP_val (by decide) hJ (ev_assign rfl) (by rw [hF]; kernel_rfl) (by rw [hF]; kernel_rfl)
      · exact RegJ.doesP_val (by decide) hJ (ev_assign rfl) (by rw [hF]; kernel_rfl) (by rw [hF]; kernel_rfl)
    · intro w9 hJ hR
      simp only [Reg.putAll, Act.put, List.setIfInBounds_toArray, List.set_cons_zero, List.set_cons_succ]
      go_wp2
      exact take_ret hR rfl rfl rfl rfl ⟨hJ.2.2, (⟨(s[a].toNat : Int) - 1, 0, emp⟩ : Val), (a + 1), by rw [Hrb.out]; rfl, z64 _ rfl, Hap.out, Hpost.out⟩
  · refine RegJ.wp_region_keep mixed (by kernel_rfl) (TakeJ w (⟨(s[a].toNat : Int) - 1, 0, emp⟩ : Val)) (fun w' => Bx w' w.heap.size (⟨(s[a].toNat : Int) - 1, 0, emp⟩ : Val)) 10 (of_decide_eq_true (by kernel_rfl)) JJ [(104, (⟨(s[a].toNat : Int) - 1, 0, emp⟩ : Val).v), (105, .int .i64 ((a + 1 : Nat) : Int)), (106, (⟨(s[a].toNat : Int) - 1, 0, emp⟩ : Val).v), (107, .bool true), (108, .bool true), (109, .int .i64 ((a + 1 : Nat) : Int)), (110, .string s), (111, .int .i64 s.size), (112, .bool lb), (113, .bool lb), (5, .int .i64 ((a + 1 : Nat) : Int)), (6, .bool lb)] 114 rfl (by kernel_rfl) ?_ ?_
    · intro F hF w' hJ
      obtain ⟨⟨z, q4⟩, q7, qb⟩ := id hJ
      refine ⟨?_, ?_, ?_, ?_, ?_, ?_, ?_, ?_, ?_, ?_, ?_, ?_, ?_, trivial⟩
      · exact RegJ.doesP_val (by decide) hJ (ev_load q7 rfl (by rw [hF]; kernel_rfl)) (by rw [hF]; kernel_rfl) (by rw [hF]; kernel_rfl)
      · exact RegJ.doesP_val (by decide) hJ (ev_move rfl) (by rw [hF]; kernel_rfl) (by rw [hF]; kernel_rfl)
      · exact RegJ.doesP_val (by decide) hJ (ev_load q7 rfl (by rw [hF]; kernel_rfl)) (by rw [hF]; kernel_rfl) (by rw [hF]; kernel_rfl)
      · exact RegJ.doesP_call (by decide) (fun w'' hw'' => hJ.after hw'') (fun w'' hw'' h => h.after hw'') (by have h := rmay_c (⟨(s[a].toNat : Int) - 1, 0, emp⟩ : Val) w' (by unfold maxLen; show (0 : Nat) ≤ _; omega); rw [Hrb.out] at h; exact h) (ev_call enRMay1 rfl (by rw [hF]; kernel_rfl)) (by rw [hF]; kernel_rfl) (by rw [hF]; kernel_rfl)
      · exact RegJ.doesP_val (by decide) hJ (ev_move rfl) (by rw [hF]; kernel_rfl) (by rw [hF]; kernel_rfl)
      · exact RegJ.doesP_val (by decide) hJ (ev_move rfl) (by rw [hF]; kernel_rfl) (by rw [hF]; kernel_rfl)
      · exact RegJ.doesP_val (by decide) hJ (ev_move rfl) (by rw [hF]; kernel_rfl) (by rw [hF]; kernel_rfl)
      · exact RegJ.doesP_val (by decide) hJ (ev_lenS (s := s) rfl (by rw [hF]; kernel_rfl) (by omega)) (by rw [hF]; kernel_rfl) (by rw [hF]; kernel_rfl)
      · exact RegJ.doesP_val (by decide) hJ (by rw [ev_leqI (a := a + 1) (b := s.size) rfl (by rw [hF]; kernel_rfl) (by rw [hF]; kernel_rfl), Hlb.out]) (by rw [hF]; kernel_rfl) (by rw [hF]; kernel_rfl)
      · exact RegJ.doesP_val (by decide) hJ (ev_pick true rfl (by rw [hF]; kernel_rfl)) (by rw [hF]; kernel_rfl) (by rw [hF]; kernel_rfl)
      · exact RegJ.doesP_store (hJ.put q4) (q4.put _) (ev_store q4 rfl (by rw [hF]; kernel_rfl) (by rw [hF]; kernel_rfl)) rfl (by rw [hF]; kernel_rfl)
      · exact RegJ.doesP_val (by decide) hJ (ev_assign rfl) (by rw [hF]; kernel_rfl) (by rw [hF]; kernel_rfl)
      · exact RegJ.doesP_val (by decide) hJ (ev_assign rfl) (by rw [hF]; kernel_rfl) (by rw [hF]; kernel_rfl)
    · intro w9 hJ hR
      simp only [Reg.putAll, Act.put, List.setIfInBounds_toArray, List.set_cons_zero, List.set_cons_succ]
      go_wp2
      exact take_ret hR rfl rfl rfl rfl ⟨hJ.2.2, (⟨(s[a].toNat : Int) - 1, 0, emp⟩ : Val), (a + 1), by rw [Hrb.out, Hlb.out]; rfl, z64 _ rfl, Hap.out, Hpost.out⟩
set_option maxRecDepth 100000 in
set_option maxHeartbeats 8000000 in
theorem take_bool (s : ByteArray) (a : Nat) (w : World) (hs : s.size ≤ 100000) (ha : a < s.size) (hk : (s[a].toNat : Int) = 2) : Calls Tryd.prog 19 #[.string s, .int .i64 a] w (TakePost s a w) := by
  by_cases hc : a + 1 < s.size
  · have Hpost := Lib.hid (post_2 s a ha hk hc)
    have Hap := Lib.hid (show a < a + 2 by omega)
    have hbt := s[a + 1].toNat_lt
    go_enter Tryd.func19, Tryd.ntmps19
    go_wp2_with fail
    have b4 : Bx ((w.alloc (.cells #[.int .i64 0, .int .i64 0, .string emp] 32)).alloc (.cells #[.int .i64 1, .int .i64 (s[a + 1].toNat : Int), .string emp] 32)) w.heap.size nl := (Bx.new w nl).alloc _
    have b7 : Bx ((w.alloc (.cells #[.int .i64 0, .int .i64 0, .string emp] 32)).alloc (.cells #[.int .i64 1, .int .i64 (s[a + 1].toNat : Int), .string emp] 32)) (w.heap.size + 1) ⟨1, (s[a + 1].toNat : Int), emp⟩ := Bx.new1 w ⟨1, (s[a + 1].toNat : Int), emp⟩ _
    have hb := below_two w (.cells #[.int .i64 0, .int .i64 0, .string emp] 32) (.cells #[.int .i64 1, .int .i64 (s[a + 1].toNat : Int), .string emp] 32)
    generalize ((w.alloc (.cells #[.int .i64 0, .int .i64 0, .string emp] 32)).alloc (.cells #[.int .i64 1, .int .i64 (s[a + 1].toNat : Int), .string emp] 32)) = w1 at b4 b7 hb ⊢
    have JJ : TakeJ w (⟨1, (s[a + 1].toNat : Int), emp⟩ : Val) w1.drew := ⟨⟨_, b4⟩, b7, ⟨hb.os, hb.tape, hb.output, hb.size, hb.block⟩⟩
    obtain ⟨rb, hrb⟩ : ∃ rb, rmB (⟨1, (s[a + 1].toNat : Int), emp⟩ : Val) = rb := ⟨_, rfl⟩
    have Hrb := Lib.hid hrb
    obtain ⟨lb, hlb⟩ : ∃ lb, decide ((a + 2) ≤ s.size) = lb := ⟨_, rfl⟩
    have Hlb := Lib.hid hlb
    clear hrb hlb
    cases rb
    · refine RegJ.wp_region_keep mixed (by kernel_rfl) (TakeJ w (⟨1, (s[a + 1].toNat : Int), emp⟩ : Val)) (fun w' => Bx w' w.heap.size (⟨1, (s[a + 1].toNat : Int), emp⟩ : Val)) 10 (of_decide_eq_true (by kernel_rfl)) JJ [(104, (⟨1, (s[a + 1].toNat : Int), emp⟩ : Val).v), (105, .int .i64 ((a + 2 : Nat) : Int)), (106, (⟨1, (s[a + 1].toNat : Int), emp⟩ : Val).v), (107, .bool false), (108, .bool false), (109, undef), (110, undef), (111, undef), (112, undef), (113, .bool false), (5, .int .i64 ((a + 2 : Nat) : Int)), (6, .bool false)] 114 rfl (by kernel_rfl) ?_ ?_
      · intro F hF w' hJ
        obtain ⟨⟨z, q4⟩, q7, qb⟩ := id hJ
        refine ⟨?_, ?_, ?_, ?_, ?_, ?_, ?_, ?_, ?_, ?_, ?_, ?_, ?_, trivial⟩
        · exact RegJ.doesP_val (by decide) hJ (ev_load q7 rfl (by rw [hF]; kernel_rfl)) (by rw [hF]; kernel_rfl) (by rw [hF]; kernel_rfl)
        · exact RegJ.doesP_val (by decide) hJ (ev_move rfl) (by rw [hF]; kernel_rfl) (by rw [hF]; kernel_rfl)
        · exact RegJ.doesP_val (by decide) hJ (ev_load q7 rfl (by rw [hF]; kernel_rfl)) (by rw [hF]; kernel_rfl) (by rw [hF]; kernel_rfl)
        · exact RegJ.doesP_call (by decide) (fun w'' hw'' => hJ.after hw'') (fun w'' hw'' h => h.after hw'') (by have h := rmay_c (⟨1, (s[a + 1].toNat : Int), emp⟩ : Val) w' (by unfold maxLen; show (0 : Nat) ≤ _; omega); rw [Hrb.out] at h; exact h) (ev_call enRMay1 rfl (by rw [hF]; kernel_rfl)) (by rw [hF]; kernel_rfl) (by rw [hF]; kernel_rfl)
        · exact RegJ.doesP_val (by decide) hJ (ev_move rfl) (by rw [hF]; kernel_rfl) (by rw [hF]; kernel_rfl)
        · exact RegJ.doesP_skip (by decide) (by rw [hF]; kernel_rfl) (by rw [hF]; kernel_rfl)
        · exact RegJ.doesP_skip (by decide) (by rw [hF]; kernel_rfl) (by rw [hF]; kernel_rfl)
        · exact RegJ.doesP_skip (by decide) (by rw [hF]; kernel_rfl) (by rw [hF]; kernel_rfl)
        · exact RegJ.doesP_skip (by decide) (by rw [hF]; kernel_rfl) (by rw [hF]; kernel_rfl)
        · exact RegJ.doesP_val (by decide) hJ (ev_pick false rfl (by rw [hF]; kernel_rfl)) (by rw [hF]; kernel_rfl) (by rw [hF]; kernel_rfl)
        · exact RegJ.doesP_store (hJ.put q4) (q4.put _) (ev_store q4 rfl (by rw [hF]; kernel_rfl) (by rw [hF]; kernel_rfl)) rfl (by rw [hF]; kernel_rfl)
        · exact RegJ.doesP_val (by decide) hJ (ev_assign rfl) (by rw [hF]; kernel_rfl) (by rw [hF]; kernel_rfl)
        · exact RegJ.doesP_val (by decide) hJ (ev_assign rfl) (by rw [hF]; kernel_rfl) (by rw [hF]; kernel_rfl)
      · intro w9 hJ hR
        simp only [Reg.putAll, Act.put, List.setIfInBounds_toArray, List.set_cons_zero, List.set_cons_succ]
        go_wp2
        exact take_ret hR rfl rfl rfl rfl ⟨hJ.2.2, (⟨1, (s[a + 1].toNat : Int), emp⟩ : Val), (a + 2), by rw [Hrb.out]; rfl, byte64 _ _, Hap.out, Hpost.out⟩
    · refine RegJ.wp_region_keep mixed (by kernel_rfl) (TakeJ w (⟨1, (s[a + 1].toNat : Int), emp⟩ : Val)) (fun w' => Bx w' w.heap.size (⟨1, (s[a + 1].toNat : Int), emp⟩ : Val)) 10 (of_decide_eq_true (by kernel_rfl)) JJ [(104, (⟨1, (s[a + 1].toNat : Int), emp⟩ : Val).v), (105, .int .i64 ((a + 2 : Nat) : Int)), (106, (⟨1, (s[a + 1].toNat : Int), emp⟩ : Val).v), (107, .bool true), (108, .bool true), (109, .int .i64 ((a + 2 : Nat) : Int)), (110, .string s), (111, .int .i64 s.size), (112, .bool lb), (113, .bool lb), (5, .int .i64 ((a + 2 : Nat) : Int)), (6, .bool lb)] 114 rfl (by kernel_rfl) ?_ ?_
      · intro F hF w' hJ
        obtain ⟨⟨z, q4⟩, q7, qb⟩ := id hJ
        refine ⟨?_, ?_, ?_, ?_, ?_, ?_, ?_, ?_, ?_, ?_, ?_, ?_, ?_, trivial⟩
        · exact RegJ.doesP_val (by decide) hJ (ev_load q7 rfl (by rw [hF]; kernel_rfl)) (by rw [hF]; kernel_rfl) (by rw [hF]; kernel_rfl)
        · exact RegJ.doesP_val (by decide) hJ (ev_move rfl) (by rw [hF]; kernel_rfl) (by rw [hF]; kernel_rfl)
        · exact RegJ.doesP_val (by decide) hJ (ev_load q7 rfl (by rw [hF]; kernel_rfl)) (by rw [hF]; kernel_rfl) (by rw [hF]; kernel_rfl)
        · exact RegJ.doesP_call (by decide) (fun w'' hw'' => hJ.after hw'') (fun w'' hw'' h => h.after hw'') (by have h := rmay_c (⟨1, (s[a + 1].toNat : Int), emp⟩ : Val) w' (by unfold maxLen; show (0 : Nat) ≤ _; omega); rw [Hrb.out] at h; exact h) (ev_call enRMay1 rfl (by rw [hF]; kernel_rfl)) (by rw [hF]; kernel_rfl) (by rw [hF]; kernel_rfl)
        · exact RegJ.doesP_val (by decide) hJ (ev_move rfl) (by rw [hF]; kernel_rfl) (by rw [hF]; kernel_rfl)
        · exact RegJ.doesP_val (by decide) hJ (ev_move rfl) (by rw [hF]; kernel_rfl) (by rw [hF]; kernel_rfl)
        · exact RegJ.doesP_val (by decide) hJ (ev_move rfl) (by rw [hF]; kernel_rfl) (by rw [hF]; kernel_rfl)
        · exact RegJ.doesP_val (by decide) hJ (ev_lenS (s := s) rfl (by rw [hF]; kernel_rfl) (by omega)) (by rw [hF]; kernel_rfl) (by rw [hF]; kernel_rfl)
        · exact RegJ.doesP_val (by decide) hJ (by rw [ev_leqI (a := a + 2) (b := s.size) rfl (by rw [hF]; kernel_rfl) (by rw [hF]; kernel_rfl), Hlb.out]) (by rw [hF]; kernel_rfl) (by rw [hF]; kernel_rfl)
        · exact RegJ.doesP_val (by decide) hJ (ev_pick true rfl (by rw [hF]; kernel_rfl)) (by rw [hF]; kernel_rfl) (by rw [hF]; kernel_rfl)
        · exact RegJ.doesP_store (hJ.put q4) (q4.put _) (ev_store q4 rfl (by rw [hF]; kernel_rfl) (by rw [hF]; kernel_rfl)) rfl (by rw [hF]; kernel_rfl)
        · exact RegJ.doesP_val (by decide) hJ (ev_assign rfl) (by rw [hF]; kernel_rfl) (by rw [hF]; kernel_rfl)
        · exact RegJ.doesP_val (by decide) hJ (ev_assign rfl) (by rw [hF]; kernel_rfl) (by rw [hF]; kernel_rfl)
      · intro w9 hJ hR
        simp only [Reg.putAll, Act.put, List.setIfInBounds_toArray, List.set_cons_zero, List.set_cons_succ]
        go_wp2
        exact take_ret hR rfl rfl rfl rfl ⟨hJ.2.2, (⟨1, (s[a + 1].toNat : Int), emp⟩ : Val), (a + 2), by rw [Hrb.out, Hlb.out]; rfl, byte64 _ _, Hap.out, Hpost.out⟩
  · have Hpost := Lib.hid (post_2s s a ⟨1, 0, emp⟩ (a + 1) ha hk hc)
    have Hap := Lib.hid (show a < a + 1 by omega)
    have d0 : decide ((a : Int) + 1 < (s.size : Int)) = false := decide_eq_false (by omega)
    go_enter Tryd.func19, Tryd.ntmps19
    go_wp2_with fail
    have e1 : ((a : Int) + 1) = ((a + 1 : Nat) : Int) := rfl
    rw [e1]
    clear e1
    have b4 : Bx ((w.alloc (.cells #[.int .i64 0, .int .i64 0, .string emp] 32)).alloc (.cells #[.int .i64 (1), .int .i64 0, .string emp] 32)) w.heap.size nl := (Bx.new w nl).alloc _
    have b7 : Bx ((w.alloc (.cells #[.int .i64 0, .int .i64 0, .string emp] 32)).alloc (.cells #[.int .i64 (1), .int .i64 0, .string emp] 32)) (w.heap.size + 1) ⟨1, 0, emp⟩ := Bx.new1 w ⟨1, 0, emp⟩ _
    have hb := below_two w (.cells #[.int .i64 0, .int .i64 0, .string emp] 32) (.cells #[.int .i64 (1), .int .i64 0, .string emp] 32)
    generalize ((w.alloc (.cells #[.int .i64 0, .int .i64 0, .string emp] 32)).alloc (.cells #[.int .i64 (1), .int .i64 0, .string emp] 32)) = w1 at b4 b7 hb ⊢
    have JJ : TakeJ w (⟨1, 0, emp⟩ : Val) w1.drew := ⟨⟨_, b4⟩, b7, ⟨hb.os, hb.tape, hb.output, hb.size, hb.block⟩⟩
    obtain ⟨rb, hrb⟩ : ∃ rb, rmB (⟨1, 0, emp⟩ : Val) = rb := ⟨_, rfl⟩
    have Hrb := Lib.hid hrb
    obtain ⟨lb, hlb⟩ : ∃ lb, decide ((a + 1) ≤ s.size) = lb := ⟨_, rfl⟩
    have Hlb := Lib.hid hlb
    clear hrb hlb
    cases rb
    · refine RegJ.wp_region_keep mixed (by kernel_rfl) (TakeJ w (⟨1, 0, emp⟩ : Val)) (fun w' => Bx w' w.heap.size (⟨1, 0, emp⟩ : Val)) 10 (of_decide_eq_true (by kernel_rfl)) JJ [(104, (⟨1, 0, emp⟩ : Val).v), (105, .int .i64 ((a + 1 : Nat) : Int)), (106, (⟨1, 0, emp⟩ : Val).v), (107, .bool false), (108, .bool false), (109, undef), (110, undef), (111, undef), (112, undef), (113, .bool false), (5, .int .i64 ((a + 1 : Nat) : Int)), (6, .bool false)] 114 rfl (by kernel_rfl) ?_ ?_
      · intro F hF w' hJ
        obtain ⟨⟨z, q4⟩, q7, qb⟩ := id hJ
        refine ⟨?_, ?_, ?_, ?_, ?_, ?_, ?_, ?_, ?_, ?_, ?_, ?_, ?_, trivial⟩
        · exact RegJ.doesP_val (by decide) hJ (ev_load q7 rfl (by rw [hF]; kernel_rfl)) (by rw [hF]; kernel_rfl) (by rw [hF]; kernel_rfl)
        · exact RegJ.doesP_val (by decide) hJ (ev_move rfl) (by rw [hF]; kernel_rfl) (by rw [hF]; kernel_rfl)
        · exact RegJ.doesP_val (by decide) hJ (ev_load q7 rfl (by rw [hF]; kernel_rfl)) (by rw [hF]; kernel_rfl) (by rw [hF]; kernel_rfl)
        · exact RegJ.doesP_call (by decide) (fun w'' hw'' => hJ.after hw'') (fun w'' hw'' h => h.after hw'') (by have h := rmay_c (⟨1, 0, emp⟩ : Val) w' (by unfold maxLen; show (0 : Nat) ≤ _; omega); rw [Hrb.out] at h; exact h) (ev_call enRMay1 rfl (by rw [hF]; kernel_rfl)) (by rw [hF]; kernel_rfl) (by rw [hF]; kernel_rfl)
        · exact RegJ.doesP_val (by decide) hJ (ev_move rfl) (by rw [hF]; kernel_rfl) (by rw [hF]; kernel_rfl)
        · exact RegJ.doesP_skip (by decide) (by rw [hF]; kernel_rfl) (by rw [hF]; kernel_rfl)
        · exact RegJ.doesP_skip (by decide) (by rw [hF]; kernel_rfl) (by rw [hF]; kernel_rfl)
        · exact RegJ.doesP_skip (by decide) (by rw [hF]; kernel_rfl) (by rw [hF]; kernel_rfl)
        · exact RegJ.doesP_skip (by decide) (by rw [hF]; kernel_rfl) (by rw [hF]; kernel_rfl)
        · exact RegJ.doesP_val (by decide) hJ (ev_pick false rfl (by rw [hF]; kernel_rfl)) (by rw [hF]; kernel_rfl) (by rw [hF]; kernel_rfl)
        · exact RegJ.doesP_store (hJ.put q4) (q4.put _) (ev_store q4 rfl (by rw [hF]; kernel_rfl) (by rw [hF]; kernel_rfl)) rfl (by rw [hF]; kernel_rfl)
        · exact RegJ.doesP_val (by decide) hJ (ev_assign rfl) (by rw [hF]; kernel_rfl) (by rw [hF]; kernel_rfl)
        · exact RegJ.doesP_val (by decide) hJ (ev_assign rfl) (by rw [hF]; kernel_rfl) (by rw [hF]; kernel_rfl)
      · intro w9 hJ hR
        simp only [Reg.putAll, Act.put, List.setIfInBounds_toArray, List.set_cons_zero, List.set_cons_succ]
        go_wp2
        exact take_ret hR rfl rfl rfl rfl ⟨hJ.2.2, (⟨1, 0, emp⟩ : Val), (a + 1), by rw [Hrb.out]; rfl, z64 _ rfl, Hap.out, Hpost.out⟩
    · refine RegJ.wp_region_keep mixed (by kernel_rfl) (TakeJ w (⟨1, 0, emp⟩ : Val)) (fun w' => Bx w' w.heap.size (⟨1, 0, emp⟩ : Val)) 10 (of_decide_eq_true (by kernel_rfl)) JJ [(104, (⟨1, 0, emp⟩ : Val).v), (105, .int .i64 ((a + 1 : Nat) : Int)), (106, (⟨1, 0, emp⟩ : Val).v), (107, .bool true), (108, .bool true), (109, .int .i64 ((a + 1 : Nat) : Int)), (110, .string s), (111, .int .i64 s.size), (112, .bool lb), (113, .bool lb), (5, .int .i64 ((a + 1 : Nat) : Int)), (6, .bool lb)] 114 rfl (by kernel_rfl) ?_ ?_
      · intro F hF w' hJ
        obtain ⟨⟨z, q4⟩, q7, qb⟩ := id hJ
        refine ⟨?_, ?_, ?_, ?_, ?_, ?_, ?_, ?_, ?_, ?_, ?_, ?_, ?_, trivial⟩
        · exact RegJ.doesP_val (by decide) hJ (ev_load q7 rfl (by rw [hF]; kernel_rfl)) (by rw [hF]; kernel_rfl) (by rw [hF]; kernel_rfl)
        · exact RegJ.doesP_val (by decide) hJ (ev_move rfl) (by rw [hF]; kernel_rfl) (by rw [hF]; kernel_rfl)
        · exact RegJ.doesP_val (by decide) hJ (ev_load q7 rfl (by rw [hF]; kernel_rfl)) (by rw [hF]; kernel_rfl) (by rw [hF]; kernel_rfl)
        · exact RegJ.doesP_call (by decide) (fun w'' hw'' => hJ.after hw'') (fun w'' hw'' h => h.after hw'') (by have h := rmay_c (⟨1, 0, emp⟩ : Val) w' (by unfold maxLen; show (0 : Nat) ≤ _; omega); rw [Hrb.out] at h; exact h) (ev_call enRMay1 rfl (by rw [hF]; kernel_rfl)) (by rw [hF]; kernel_rfl) (by rw [hF]; kernel_rfl)
        · exact RegJ.doesP_val (by decide) hJ (ev_move rfl) (by rw [hF]; kernel_rfl) (by rw [hF]; kernel_rfl)
        · exact RegJ.doesP_val (by decide) hJ (ev_move rfl) (by rw [hF]; kernel_rfl) (by rw [hF]; kernel_rfl)
        · exact RegJ.doesP_val (by decide) hJ (ev_move rfl) (by rw [hF]; kernel_rfl) (by rw [hF]; kernel_rfl)
        · exact RegJ.doesP_val (by decide) hJ (ev_lenS (s := s) rfl (by rw [hF]; kernel_rfl) (by omega)) (by rw [hF]; kernel_rfl) (by rw [hF]; kernel_rfl)
        · exact RegJ.doesP_val (by decide) hJ (by rw [ev_leqI (a := a + 1) (b := s.size) rfl (by rw [hF]; kernel_rfl) (by rw [hF]; kernel_rfl), Hlb.out]) (by rw [hF]; kernel_rfl) (by rw [hF]; kernel_rfl)
        · exact RegJ.doesP_val (by decide) hJ (ev_pick true rfl (by rw [hF]; kernel_rfl)) (by rw [hF]; kernel_rfl) (by rw [hF]; kernel_rfl)
        · exact RegJ.doesP_store (hJ.put q4) (q4.put _) (ev_store q4 rfl (by rw [hF]; kernel_rfl) (by rw [hF]; kernel_rfl)) rfl (by rw [hF]; kernel_rfl)
        · exact RegJ.doesP_val (by decide) hJ (ev_assign rfl) (by rw [hF]; kernel_rfl) (by rw [hF]; kernel_rfl)
        · exact RegJ.doesP_val (by decide) hJ (ev_assign rfl) (by rw [hF]; kernel_rfl) (by rw [hF]; kernel_rfl)
      · intro w9 hJ hR
        simp only [Reg.putAll, Act.put, List.setIfInBounds_toArray, List.set_cons_zero, List.set_cons_succ]
        go_wp2
        exact take_ret hR rfl rfl rfl rfl ⟨hJ.2.2, (⟨1, 0, emp⟩ : Val), (a + 1), by rw [Hrb.out, Hlb.out]; rfl, z64 _ rfl, Hap.out, Hpost.out⟩
set_option maxRecDepth 100000 in
set_option maxHeartbeats 8000000 in
theorem take_int (s : ByteArray) (a : Nat) (w : World) (hs : s.size ≤ 100000) (ha : a < s.size) (hk : (s[a].toNat : Int) = 3) : Calls Tryd.prog 19 #[.string s, .int .i64 a] w (TakePost s a w) := by
  by_cases hc : a + 9 ≤ s.size
  · have d0 : decide ((a : Int) + 1 + 8 ≤ (s.size : Int)) = true := decide_eq_true (by omega)
    have Hpost := Lib.hid (post_3 s a ha hk hc)
    have Hap := Lib.hid (show a < a + 9 by omega)
    have hnum : numB ((s.data.toList.drop (a + 1)).take 8) < 18446744073709551616 := by
      have h2 := numB_lt ((s.data.toList.drop (a + 1)).take 8)
      have h3 : ((s.data.toList.drop (a + 1)).take 8).length ≤ 8 := by rw [List.length_take]; omega
      have h4 : (256 : Nat) ^ 8 = 18446744073709551616 := rfl
      have h5 : 256 ^ ((s.data.toList.drop (a + 1)).take 8).length ≤ 256 ^ 8 := Nat.pow_le_pow_right (by omega) h3
      omega
    have Hnum := Lib.hid hnum
    have Hw := Lib.hid (w_long _ hnum)
    clear hnum
    go_enter Tryd.func19, Tryd.ntmps19
    go_wp2_with fail
    go_loop [8, 9] (fun x i => ∃ k : Nat, k ≤ 8 ∧ i = .int .i64 k ∧ x = .int .u64 (numB ((s.data.toList.drop (a + 1)).take k))) (fun _ i => 8 - (intOf i).toNat)
    case atStart => exact ⟨0, by omega, rfl, rfl⟩
    case round =>
      obtain ⟨k, hk8, rfl, rfl⟩ := hrel
      by_cases hlt : k < 8
      · have hix : a + 1 + k < s.size := by omega
        have hu : numB ((s.data.toList.drop (a + 1)).take k) < 72057594037927936 := by
          have h1 := numB_lt ((s.data.toList.drop (a + 1)).take k)
          have h2 : 256 ^ ((s.data.toList.drop (a + 1)).take k).length ≤ 256 ^ 7 := Nat.pow_le_pow_right (by omega) (by rw [List.length_take]; omega)
          omega
        have hst := add_byte _ s[a + 1 + k].toNat hu s[a + 1 + k].toNat_lt
        rw [← numB_snoc, ← take_next s (a + 1) k hix] at hst
        have Hst := Lib.hid hst
        clear hst hu
        go_wp2
        go_round
        case rel => exact ⟨k + 1, by omega, by go_num, congrArg (Value.int .u64) Hst.out⟩
        case measure => simp [intOf]; omega
      · obtain rfl : k = 8 := by omega
        obtain ⟨N, hN⟩ : ∃ N, numB ((s.data.toList.drop (a + 1)).take 8) = N := ⟨_, rfl⟩
        rw [hN] at Hpost Hnum Hw ⊢
        clear hN
        go_wp2_with fail
        rw [Hw.out]
        have b4 : Bx ((w.alloc (.cells #[.int .i64 0, .int .i64 0, .string emp] 32)).alloc (.cells #[.int .i64 2, .int .i64 ((N : Int) - 9223372036854775808), .string emp] 32)) w.heap.size nl := (Bx.new w nl).alloc _
        have b7 : Bx ((w.alloc (.cells #[.int .i64 0, .int .i64 0, .string emp] 32)).alloc (.cells #[.int .i64 2, .int .i64 ((N : Int) - 9223372036854775808), .string emp] 32)) (w.heap.size + 1) ⟨2, (N : Int) - 9223372036854775808, emp⟩ := Bx.new1 w ⟨2, (N : Int) - 9223372036854775808, emp⟩ _
        have hb := below_two w (.cells #[.int .i64 0, .int .i64 0, .string emp] 32) (.cells #[.int .i64 2, .int .i64 ((N : Int) - 9223372036854775808), .string emp] 32)
        generalize ((w.alloc (.cells #[.int .i64 0, .int .i64 0, .string emp] 32)).alloc (.cells #[.int .i64 2, .int .i64 ((N : Int) - 9223372036854775808), .string emp] 32)) = w1 at b4 b7 hb ⊢
        have JJ : TakeJ w (⟨2, (N : Int) - 9223372036854775808, emp⟩ : Val) w1.drew := ⟨⟨_, b4⟩, b7, ⟨hb.os, hb.tape, hb.output, hb.size, hb.block⟩⟩
        obtain ⟨rb, hrb⟩ : ∃ rb, rmB (⟨2, (N : Int) - 9223372036854775808, emp⟩ : Val) = rb := ⟨_, rfl⟩
        have Hrb := Lib.hid hrb
        obtain ⟨lb, hlb⟩ : ∃ lb, decide ((a + 9) ≤ s.size) = lb := ⟨_, rfl⟩
        have Hlb := Lib.hid hlb
        clear hrb hlb
        cases rb
        · refine RegJ.wp_region_keep mixed (by kernel_rfl) (TakeJ w (⟨2, (N : Int) - 9223372036854775808, emp⟩ : Val)) (fun w' => Bx w' w.heap.size (⟨2, (N : Int) - 9223372036854775808, emp⟩ : Val)) 10 (of_decide_eq_true (by kernel_rfl)) JJ [(104, (⟨2, (N : Int) - 9223372036854775808, emp⟩ : Val).v), (105, .int .i64 ((a + 9 : Nat) : Int)), (106, (⟨2, (N : Int) - 9223372036854775808, emp⟩ : Val).v), (107, .bool false), (108, .bool false), (109, undef), (110, undef), (111, undef), (112, undef), (113, .bool false), (5, .int .i64 ((a + 9 : Nat) : Int)), (6, .bool false)] 114 rfl (by kernel_rfl) ?_ ?_
          · intro F hF w' hJ
            obtain ⟨⟨z, q4⟩, q7, qb⟩ := id hJ
            refine ⟨?_, ?_, ?_, ?_, ?_, ?_, ?_, ?_, ?_, ?_, ?_, ?_, ?_, trivial⟩
            · exact RegJ.doesP_val (by decide) hJ (ev_load q7 rfl (by rw [hF]; kernel_rfl)) (by rw [hF]; kernel_rfl) (by rw [hF]; kernel_rfl)
            · exact RegJ.doesP_val (by decide) hJ (ev_move rfl) (by rw [hF]; kernel_rfl) (by rw [hF]; kernel_rfl)
            · exact RegJ.doesP_val (by decide) hJ (ev_load q7 rfl (by rw [hF]; kernel_rfl)) (by rw [hF]; kernel_rfl) (by rw [hF]; kernel_rfl)
            · exact RegJ.doesP_call (by decide) (fun w'' hw'' => hJ.after hw'') (fun w'' hw'' h => h.after hw'') (by have h := rmay_c (⟨2, (N : Int) - 9223372036854775808, emp⟩ : Val) w' (by unfold maxLen; show (0 : Nat) ≤ _; omega); rw [Hrb.out] at h; exact h) (ev_call enRMay1 rfl (by rw [hF]; kernel_rfl)) (by rw [hF]; kernel_rfl) (by rw [hF]; kernel_rfl)
            · exact RegJ.doesP_val (by decide) hJ (ev_move rfl) (by rw [hF]; kernel_rfl) (by rw [hF]; kernel_rfl)
            · exact RegJ.doesP_skip (by decide) (by rw [hF]; kernel_rfl) (by rw [hF]; kernel_rfl)
            · exact RegJ.doesP_skip (by decide) (by rw [hF]; kernel_rfl) (by rw [hF]; kernel_rfl)
            · exact RegJ.doesP_skip (by decide) (by rw [hF]; kernel_rfl) (by rw [hF]; kernel_rfl)
            · exact RegJ.doesP_skip (by decide) (by rw [hF]; kernel_rfl) (by rw [hF]; kernel_rfl)
            · exact RegJ.doesP_val (by decide) hJ (ev_pick false rfl (by rw [hF]; kernel_rfl)) (by rw [hF]; kernel_rfl) (by rw [hF]; kernel_rfl)
            · exact RegJ.doesP_store (hJ.put q4) (q4.put _) (ev_store q4 rfl (by rw [hF]; kernel_rfl) (by rw [hF]; kernel_rfl)) rfl (by rw [hF]; kernel_rfl)
            · exact RegJ.doesP_val (by decide) hJ (ev_assign rfl) (by rw [hF]; kernel_rfl) (by rw [hF]; kernel_rfl)
            · exact RegJ.doesP_val (by decide) hJ (ev_assign rfl) (by rw [hF]; kernel_rfl) (by rw [hF]; kernel_rfl)
          · intro w9 hJ hR
            simp only [Reg.putAll, Act.put, List.setIfInBounds_toArray, List.set_cons_zero, List.set_cons_succ]
            go_wp2
            exact take_ret hR rfl rfl rfl rfl ⟨hJ.2.2, (⟨2, (N : Int) - 9223372036854775808, emp⟩ : Val), (a + 9), by rw [Hrb.out]; rfl, num64 N Hnum.out, Hap.out, Hpost.out⟩
        · refine RegJ.wp_region_keep mixed (by kernel_rfl) (TakeJ w (⟨2, (N : Int) - 9223372036854775808, emp⟩ : Val)) (fun w' => Bx w' w.heap.size (⟨2, (N : Int) - 9223372036854775808, emp⟩ : Val)) 10 (of_decide_eq_true (by kernel_rfl)) JJ [(104, (⟨2, (N : Int) - 9223372036854775808, emp⟩ : Val).v), (105, .int .i64 ((a + 9 : Nat) : Int)), (106, (⟨2, (N : Int) - 9223372036854775808, emp⟩ : Val).v), (107, .bool true), (108, .bool true), (109, .int .i64 ((a + 9 : Nat) : Int)), (110, .string s), (111, .int .i64 s.size), (112, .bool lb), (113, .bool lb), (5, .int .i64 ((a + 9 : Nat) : Int)), (6, .bool lb)] 114 rfl (by kernel_rfl) ?_ ?_
          · intro F hF w' hJ
            obtain ⟨⟨z, q4⟩, q7, qb⟩ := id hJ
            refine ⟨?_, ?_, ?_, ?_, ?_, ?_, ?_, ?_, ?_, ?_, ?_, ?_, ?_, trivial⟩
            · exact RegJ.doesP_val (by decide) hJ (ev_load q7 rfl (by rw [hF]; kernel_rfl)) (by rw [hF]; kernel_rfl) (by rw [hF]; kernel_rfl)
            · exact RegJ.doesP_val (by decide) hJ (ev_move rfl) (by rw [hF]; kernel_rfl) (by rw [hF]; kernel_rfl)
            · exact RegJ.doesP_val (by decide) hJ (ev_load q7 rfl (by rw [hF]; kernel_rfl)) (by rw [hF]; kernel_rfl) (by rw [hF]; kernel_rfl)
            · exact RegJ.doesP_call (by decide) (fun w'' hw'' => hJ.after hw'') (fun w'' hw'' h => h.after hw'') (by have h := rmay_c (⟨2, (N : Int) - 9223372036854775808, emp⟩ : Val) w' (by unfold maxLen; show (0 : Nat) ≤ _; omega); rw [Hrb.out] at h; exact h) (ev_call enRMay1 rfl (by rw [hF]; kernel_rfl)) (by rw [hF]; kernel_rfl) (by rw [hF]; kernel_rfl)
            · exact RegJ.doesP_val (by decide) hJ (ev_move rfl) (by rw [hF]; kernel_rfl) (by rw [hF]; kernel_rfl)
            · exact RegJ.doesP_val (by decide) hJ (ev_move rfl) (by rw [hF]; kernel_rfl) (by rw [hF]; kernel_rfl)
            · exact RegJ.doesP_val (by decide) hJ (ev_move rfl) (by rw [hF]; kernel_rfl) (by rw [hF]; kernel_rfl)
            · exact RegJ.doesP_val (by decide) hJ (ev_lenS (s := s) rfl (by rw [hF]; kernel_rfl) (by omega)) (by rw [hF]; kernel_rfl) (by rw [hF]; kernel_rfl)
            · exact RegJ.doesP_val (by decide) hJ (by rw [ev_leqI (a := a + 9) (b := s.size) rfl (by rw [hF]; kernel_rfl) (by rw [hF]; kernel_rfl), Hlb.out]) (by rw [hF]; kernel_rfl) (by rw [hF]; kernel_rfl)
            · exact RegJ.doesP_val (by decide) hJ (ev_pick true rfl (by rw [hF]; kernel_rfl)) (by rw [hF]; kernel_rfl) (by rw [hF]; kernel_rfl)
            · exact RegJ.doesP_store (hJ.put q4) (q4.put _) (ev_store q4 rfl (by rw [hF]; kernel_rfl) (by rw [hF]; kernel_rfl)) rfl (by rw [hF]; kernel_rfl)
            · exact RegJ.doesP_val (by decide) hJ (ev_assign rfl) (by rw [hF]; kernel_rfl) (by rw [hF]; kernel_rfl)
            · exact RegJ.doesP_val (by decide) hJ (ev_assign rfl) (by rw [hF]; kernel_rfl) (by rw [hF]; kernel_rfl)
          · intro w9 hJ hR
            simp only [Reg.putAll, Act.put, List.setIfInBounds_toArray, List.set_cons_zero, List.set_cons_succ]
            go_wp2
            exact take_ret hR rfl rfl rfl rfl ⟨hJ.2.2, (⟨2, (N : Int) - 9223372036854775808, emp⟩ : Val), (a + 9), by rw [Hrb.out, Hlb.out]; rfl, num64 N Hnum.out, Hap.out, Hpost.out⟩
  · have Hpost := Lib.hid (post_3s s a ⟨2, 0, emp⟩ (a + 1) ha hk hc)
    have Hap := Lib.hid (show a < a + 1 by omega)
    have d0 : decide ((a : Int) + 1 + 8 ≤ (s.size : Int)) = false := decide_eq_false (by omega)
    go_enter Tryd.func19, Tryd.ntmps19
    go_wp2_with fail
    have e1 : ((a : Int) + 1) = ((a + 1 : Nat) : Int) := rfl
    rw [e1]
    clear e1
    have b4 : Bx ((w.alloc (.cells #[.int .i64 0, .int .i64 0, .string emp] 32)).alloc (.cells #[.int .i64 (2), .int .i64 0, .string emp] 32)) w.heap.size nl := (Bx.new w nl).alloc _
    have b7 : Bx ((w.alloc (.cells #[.int .i64 0, .int .i64 0, .string emp] 32)).alloc (.cells #[.int .i64 (2), .int .i64 0, .string emp] 32)) (w.heap.size + 1) ⟨2, 0, emp⟩ := Bx.new1 w ⟨2, 0, emp⟩ _
    have hb := below_two w (.cells #[.int .i64 0, .int .i64 0, .string emp] 32) (.cells #[.int .i64 (2), .int .i64 0, .string emp] 32)
    generalize ((w.alloc (.cells #[.int .i64 0, .int .i64 0, .string emp] 32)).alloc (.cells #[.int .i64 (2), .int .i64 0, .string emp] 32)) = w1 at b4 b7 hb ⊢
    have JJ : TakeJ w (⟨2, 0, emp⟩ : Val) w1.drew := ⟨⟨_, b4⟩, b7, ⟨hb.os, hb.tape, hb.output, hb.size, hb.block⟩⟩
    obtain ⟨rb, hrb⟩ : ∃ rb, rmB (⟨2, 0, emp⟩ : Val) = rb := ⟨_, rfl⟩
    have Hrb := Lib.hid hrb
    obtain ⟨lb, hlb⟩ : ∃ lb, decide ((a + 1) ≤ s.size) = lb := ⟨_, rfl⟩
    have Hlb := Lib.hid hlb
    clear hrb hlb
    cases rb
    · refine RegJ.wp_region_keep mixed (by kernel_rfl) (TakeJ w (⟨2, 0, emp⟩ : Val)) (fun w' => Bx w' w.heap.size (⟨2, 0, emp⟩ : Val)) 10 (of_decide_eq_true (by kernel_rfl)) JJ [(104, (⟨2, 0, emp⟩ : Val).v), (105, .int .i64 ((a + 1 : Nat) : Int)), (106, (⟨2, 0, emp⟩ : Val).v), (107, .bool false), (108, .bool false), (109, undef), (110, undef), (111, undef), (112, undef), (113, .bool false), (5, .int .i64 ((a + 1 : Nat) : Int)), (6, .bool false)] 114 rfl (by kernel_rfl) ?_ ?_
      · intro F hF w' hJ
        obtain ⟨⟨z, q4⟩, q7, qb⟩ := id hJ
        refine ⟨?_, ?_, ?_, ?_, ?_, ?_, ?_, ?_, ?_, ?_, ?_, ?_, ?_, trivial⟩
        · exact RegJ.doesP_val (by decide) hJ (ev_load q7 rfl (by rw [hF]; kernel_rfl)) (by rw [hF]; kernel_rfl) (by rw [hF]; kernel_rfl)
        · exact RegJ.doesP_val (by decide) hJ (ev_move rfl) (by rw [hF]; kernel_rfl) (by rw [hF]; kernel_rfl)
        · exact RegJ.doesP_val (by decide) hJ (ev_load q7 rfl (by rw [hF]; kernel_rfl)) (by rw [hF]; kernel_rfl) (by rw [hF]; kernel_rfl)
        · exact RegJ.doesP_call (by decide) (fun w'' hw'' => hJ.after hw'') (fun w'' hw'' h => h.after hw'') (by have h := rmay_c (⟨2, 0, emp⟩ : Val) w' (by unfold maxLen; show (0 : Nat) ≤ _; omega); rw [Hrb.out] at h; exact h) (ev_call enRMay1 rfl (by rw [hF]; kernel_rfl)) (by rw [hF]; kernel_rfl) (by rw [hF]; kernel_rfl)
        · exact RegJ.doesP_val (by decide) hJ (ev_move rfl) (by rw [hF]; kernel_rfl) (by rw [hF]; kernel_rfl)
        · exact RegJ.doesP_skip (by decide) (by rw [hF]; kernel_rfl) (by rw [hF]; kernel_rfl)
        · exact RegJ.doesP_skip (by decide) (by rw [hF]; kernel_rfl) (by rw [hF]; kernel_rfl)
        · exact RegJ.doesP_skip (by decide) (by rw [hF]; kernel_rfl) (by rw [hF]; kernel_rfl)
        · exact RegJ.doesP_skip (by decide) (by rw [hF]; kernel_rfl) (by rw [hF]; kernel_rfl)
        · exact RegJ.doesP_val (by decide) hJ (ev_pick false rfl (by rw [hF]; kernel_rfl)) (by rw [hF]; kernel_rfl) (by rw [hF]; kernel_rfl)
        · exact RegJ.doesP_store (hJ.put q4) (q4.put _) (ev_store q4 rfl (by rw [hF]; kernel_rfl) (by rw [hF]; kernel_rfl)) rfl (by rw [hF]; kernel_rfl)
        · exact RegJ.doesP_val (by decide) hJ (ev_assign rfl) (by rw [hF]; kernel_rfl) (by rw [hF]; kernel_rfl)
        · exact RegJ.doesP_val (by decide) hJ (ev_assign rfl) (by rw [hF]; kernel_rfl) (by rw [hF]; kernel_rfl)
      · intro w9 hJ hR
        simp only [Reg.putAll, Act.put, List.setIfInBounds_toArray, List.set_cons_zero, List.set_cons_succ]
        go_wp2
        exact take_ret hR rfl rfl rfl rfl ⟨hJ.2.2, (⟨2, 0, emp⟩ : Val), (a + 1), by rw [Hrb.out]; rfl, z64 _ rfl, Hap.out, Hpost.out⟩
    · refine RegJ.wp_region_keep mixed (by kernel_rfl) (TakeJ w (⟨2, 0, emp⟩ : Val)) (fun w' => Bx w' w.heap.size (⟨2, 0, emp⟩ : Val)) 10 (of_decide_eq_true (by kernel_rfl)) JJ [(104, (⟨2, 0, emp⟩ : Val).v), (105, .int .i64 ((a + 1 : Nat) : Int)), (106, (⟨2, 0, emp⟩ : Val).v), (107, .bool true), (108, .bool true), (109, .int .i64 ((a + 1 : Nat) : Int)), (110, .string s), (111, .int .i64 s.size), (112, .bool lb), (113, .bool lb), (5, .int .i64 ((a + 1 : Nat) : Int)), (6, .bool lb)] 114 rfl (by kernel_rfl) ?_ ?_
      · intro F hF w' hJ
        obtain ⟨⟨z, q4⟩, q7, qb⟩ := id hJ
        refine ⟨?_, ?_, ?_, ?_, ?_, ?_, ?_, ?_, ?_, ?_, ?_, ?_, ?_, trivial⟩
        · exact RegJ.doesP_val (by decide) hJ (ev_load q7 rfl (by rw [hF]; kernel_rfl)) (by rw [hF]; kernel_rfl) (by rw [hF]; kernel_rfl)
        · exact RegJ.doesP_val (by decide) hJ (ev_move rfl) (by rw [hF]; kernel_rfl) (by rw [hF]; kernel_rfl)
        · exact RegJ.doesP_val (by decide) hJ (ev_load q7 rfl (by rw [hF]; kernel_rfl)) (by rw [hF]; kernel_rfl) (by rw [hF]; kernel_rfl)
        · exact RegJ.doesP_call (by decide) (fun w'' hw'' => hJ.after hw'') (fun w'' hw'' h => h.after hw'') (by have h := rmay_c (⟨2, 0, emp⟩ : Val) w' (by unfold maxLen; show (0 : Nat) ≤ _; omega); rw [Hrb.out] at h; exact h) (ev_call enRMay1 rfl (by rw [hF]; kernel_rfl)) (by rw [hF]; kernel_rfl) (by rw [hF]; kernel_rfl)
        · exact RegJ.doesP_val (by decide) hJ (ev_move rfl) (by rw [hF]; kernel_rfl) (by rw [hF]; kernel_rfl)
        · exact RegJ.doesP_val (by decide) hJ (ev_move rfl) (by rw [hF]; kernel_rfl) (by rw [hF]; kernel_rfl)
        · exact RegJ.doesP_val (by decide) hJ (ev_move rfl) (by rw [hF]; kernel_rfl) (by rw [hF]; kernel_rfl)
        · exact RegJ.doesP_val (by decide) hJ (ev_lenS (s := s) rfl (by rw [hF]; kernel_rfl) (by omega)) (by rw [hF]; kernel_rfl) (by rw [hF]; kernel_rfl)
        · exact RegJ.doesP_val (by decide) hJ (by rw [ev_leqI (a := a + 1) (b := s.size) rfl (by rw [hF]; kernel_rfl) (by rw [hF]; kernel_rfl), Hlb.out]) (by rw [hF]; kernel_rfl) (by rw [hF]; kernel_rfl)
        · exact RegJ.doesP_val (by decide) hJ (ev_pick true rfl (by rw [hF]; kernel_rfl)) (by rw [hF]; kernel_rfl) (by rw [hF]; kernel_rfl)
        · exact RegJ.doesP_store (hJ.put q4) (q4.put _) (ev_store q4 rfl (by rw [hF]; kernel_rfl) (by rw [hF]; kernel_rfl)) rfl (by rw [hF]; kernel_rfl)
        · exact RegJ.doesP_val (by decide) hJ (ev_assign rfl) (by rw [hF]; kernel_rfl) (by rw [hF]; kernel_rfl)
        · exact RegJ.doesP_val (by decide) hJ (ev_assign rfl) (by rw [hF]; kernel_rfl) (by rw [hF]; kernel_rfl)
      · intro w9 hJ hR
        simp only [Reg.putAll, Act.put, List.setIfInBounds_toArray, List.set_cons_zero, List.set_cons_succ]
        go_wp2
        exact take_ret hR rfl rfl rfl rfl ⟨hJ.2.2, (⟨2, 0, emp⟩ : Val), (a + 1), by rw [Hrb.out, Hlb.out]; rfl, z64 _ rfl, Hap.out, Hpost.out⟩
set_option maxRecDepth 100000 in
set_option maxHeartbeats 8000000 in
theorem take_text (s : ByteArray) (a : Nat) (w : World) (hs : s.size ≤ 100000) (ha : a < s.size) (hk : (s[a].toNat : Int) = 4) : Calls Tryd.prog 19 #[.string s, .int .i64 a] w (TakePost s a w) := by
  have HK := Lib.hid hk
  go_enter Tryd.func19, Tryd.ntmps19
  go_wp2_with fail
  have b4 : Bx ((w.alloc (.cells #[.int .i64 0, .int .i64 0, .string emp] 32)).alloc (.cells #[.int .i64 (3), .int .i64 0, .string emp] 32)) w.heap.size nl := (Bx.new w nl).alloc _
  have b7 : Bx ((w.alloc (.cells #[.int .i64 0, .int .i64 0, .string emp] 32)).alloc (.cells #[.int .i64 (3), .int .i64 0, .string emp] 32)) (w.heap.size + 1) ⟨3, 0, emp⟩ := Bx.new1 w ⟨3, 0, emp⟩ _
  have hb := below_two w (.cells #[.int .i64 0, .int .i64 0, .string emp] 32) (.cells #[.int .i64 (3), .int .i64 0, .string emp] 32)
  generalize ((w.alloc (.cells #[.int .i64 0, .int .i64 0, .string emp] 32)).alloc (.cells #[.int .i64 (3), .int .i64 0, .string emp] 32)) = w1 at b4 b7 hb ⊢
  go_loopw [1] (fun i wr => ∃ A : Nat, i = .int .i64 A ∧ ScanRel s a w A wr) (fun i _ => s.size - (intOf i).toNat)
  case atStart => exact ⟨a + 1, rfl, by omega, hb, ⟨_, b4⟩, [], 0, by omega, Nat.le_refl _, b7, by simp⟩
  case round =>
    clear b4 b7 hb hk
    obtain ⟨A, rfl, hA, hb, ⟨z, b4⟩, S, n, hAn, hSn, b7, hscan⟩ := hrel
    by_cases hlt : A + 1 < s.size
    · have hA2 : A < s.size := by omega
      have hd1 := drop_at s A hA2
      have hd2 := drop_at s (A + 1) hlt
      rw [hd2] at hd1
      have d1 : decide ((A : Int) + 1 < (s.size : Int)) = true := decide_eq_true (by omega)
      have hcat := cat_run2 S [s[A]] (by rw [List.length_singleton]; omega)
      rw [← extract_one s A hA2] at hcat
      cases h0 : ((s[A].toNat : Int) == 0)
      · have hne : s[A] ≠ 0 := by
          intro h
          rw [h] at h0
          exact absurd h0 (by decide)
        have hsc := hscan
        rw [hd1, scan_byte _ _ _ hne, ← hd2] at hsc
        have Hsc := Lib.hid hsc
        clear hsc hscan hd1 hd2 hne
        obtain ⟨s1, hs1⟩ : ∃ s1 : ByteArray, s1 = ⟨S.toArray⟩ := ⟨_, rfl⟩
        obtain ⟨s2, hs2⟩ : ∃ s2 : ByteArray, s2 = ⟨(S ++ [s[A]]).toArray⟩ := ⟨_, rfl⟩
        rw [← hs1] at b7 hcat
        rw [← hs2] at hcat
        have Hs2 := Lib.hid hs2
        clear hs1 hs2
        have c2 : wr.cell? ⟨w.heap.size + 1, 2, none⟩ = some (.string s1) := b7.cell2
        have f2 := b7.frozen 2
        go_wp2_with fail
        go_region
        have b4' : Bx (wr.setCell ⟨w.heap.size + 1, 2, none⟩ (.string s2)).drew w.heap.size z := Bx.other b4 (by omega)
        have b7' : Bx (wr.setCell ⟨w.heap.size + 1, 2, none⟩ (.string s2)).drew (w.heap.size + 1) ⟨3, 0, s2⟩ := b7.set2 s2
        have hb' : Below w.heap.size w (wr.setCell ⟨w.heap.size + 1, 2, none⟩ (.string s2)).drew := below_set hb
        clear b4 b7 hb c2 f2 hcat
        generalize (wr.setCell ⟨w.heap.size + 1, 2, none⟩ (.string s2)).drew = w2 at b4' b7' hb' ⊢
        go_wp2
        go_roundw
        case rel => exact ⟨A + 1, by go_num, by omega, hb', ⟨_, b4'⟩, S ++ [s[A]], n + 1, by omega, by rw [List.length_append, List.length_singleton]; omega, by rw [← Hs2.out]; exact b7', by rw [Hsc.out]; simp; omega⟩
        case measure => simp [intOf]; omega
      · have hz : s[A] = 0 := UInt8.toNat_inj.1 (by simpa using h0)
        cases h1 : ((s[A + 1].toNat : Int) == 1)
        · have hne : s[A + 1] ≠ 1 := by
            intro h
            rw [h] at h1
            exact absurd h1 (by decide)
          have hsc := hscan
          rw [hd1, hz, scan_zero _ _ hne] at hsc
          rw [hz] at hcat
          have Hsc : Hid (scanT (s.data.toList.drop (a + 1)) = (S ++ ((0 : UInt8) :: (scanT (s.data.toList.drop (A + 2))).1), n + ((scanT (s.data.toList.drop (A + 2))).2 + 2))) := hsc
          clear hsc hscan hd1 hd2 hne hz
          obtain ⟨s1, hs1⟩ : ∃ s1 : ByteArray, s1 = ⟨S.toArray⟩ := ⟨_, rfl⟩
          obtain ⟨s2, hs2⟩ : ∃ s2 : ByteArray, s2 = ⟨(S ++ [0]).toArray⟩ := ⟨_, rfl⟩
          rw [← hs1] at b7 hcat
          rw [← hs2] at hcat
          have Hs2 := Lib.hid hs2
          clear hs1 hs2
          have c2 : wr.cell? ⟨w.heap.size + 1, 2, none⟩ = some (.string s1) := b7.cell2
          have f2 := b7.frozen 2
          go_wp2_with fail
          go_region
          have b4' : Bx (wr.setCell ⟨w.heap.size + 1, 2, none⟩ (.string s2)).drew w.heap.size z := Bx.other b4 (by omega)
          have b7' : Bx (wr.setCell ⟨w.heap.size + 1, 2, none⟩ (.string s2)).drew (w.heap.size + 1) ⟨3, 0, s2⟩ := b7.set2 s2
          have hb' : Below w.heap.size w (wr.setCell ⟨w.heap.size + 1, 2, none⟩ (.string s2)).drew := below_set hb
          clear b4 b7 hb c2 f2 hcat
          generalize (wr.setCell ⟨w.heap.size + 1, 2, none⟩ (.string s2)).drew = w2 at b4' b7' hb' ⊢
          go_wp2
          go_roundw
          case rel => exact ⟨A + 2, by go_num, by omega, hb', ⟨_, b4'⟩, S ++ [0], n + 2, by omega, by rw [List.length_append, List.length_singleton]; omega, by rw [← Hs2.out]; exact b7', by rw [Hsc.out]; simp; omega⟩
          case measure => simp [intOf]; omega
        · have hz1 : s[A + 1] = 1 := byte_is _ 1 (by omega) (eq_of_beq h1)
          have hend : scanT (s.data.toList.drop A) = ([], 0) := by rw [hd1, hz, hz1]; rfl
          rw [hend, List.append_nil] at hscan
          clear hcat hz hz1 hd1 hd2 hend
          have Hpost := Lib.hid (post_4 s a S n ha HK.out hscan)
          have Hap := Lib.hid (show a < A + 2 by omega)
          have Hp2 : Hid (∀ y r, cut1 (s.data.toList.drop a) = some (y, r) → (⟨3, 0, ⟨S.toArray⟩⟩ : Val) = y ∧ A + 2 + r.length = s.size) := fun y r h => by
            obtain ⟨h1, h2⟩ := Hpost.out y r h
            exact ⟨h1, by omega⟩
          clear Hpost
          have Hpost := Hp2
          clear Hp2
          have hSz : (⟨S.toArray⟩ : ByteArray).size ≤ maxLen := by
            rw [size_mk]
            unfold maxLen
            omega
          have HSz := Lib.hid hSz
          clear hSz
          generalize (⟨S.toArray⟩ : ByteArray) = sx at Hpost HSz b7 ⊢
          go_wp2_with fail
          have JJ : TakeJ w (⟨3, 0, sx⟩ : Val) wr.drew := ⟨⟨_, b4⟩, b7, ⟨hb.os, hb.tape, hb.output, hb.size, hb.block⟩⟩
          obtain ⟨rb, hrb⟩ : ∃ rb, rmB (⟨3, 0, sx⟩ : Val) = rb := ⟨_, rfl⟩
          have Hrb := Lib.hid hrb
          obtain ⟨lb, hlb⟩ : ∃ lb, decide ((A + 2) ≤ s.size) = lb := ⟨_, rfl⟩
          have Hlb := Lib.hid hlb
          clear hrb hlb
          cases rb
          · refine RegJ.wp_region_keep mixed (by kernel_rfl) (TakeJ w (⟨3, 0, sx⟩ : Val)) (fun w' => Bx w' w.heap.size (⟨3, 0, sx⟩ : Val)) 10 (of_decide_eq_true (by kernel_rfl)) JJ [(104, (⟨3, 0, sx⟩ : Val).v), (105, .int .i64 ((A + 2 : Nat) : Int)), (106, (⟨3, 0, sx⟩ : Val).v), (107, .bool false), (108, .bool false), (109, undef), (110, undef), (111, undef), (112, undef), (113, .bool false), (5, .int .i64 ((A + 2 : Nat) : Int)), (6, .bool false)] 114 rfl (by kernel_rfl) ?_ ?_
            · intro F hF w' hJ
              obtain ⟨⟨z, q4⟩, q7, qb⟩ := id hJ
              refine ⟨?_, ?_, ?_, ?_, ?_, ?_, ?_, ?_, ?_, ?_, ?_, ?_, ?_, trivial⟩
              · exact RegJ.doesP_val (by decide) hJ (ev_load q7 rfl (by rw [hF]; kernel_rfl)) (by rw [hF]; kernel_rfl) (by rw [hF]; kernel_rfl)
              · exact RegJ.doesP_val (by decide) hJ (ev_move rfl) (by rw [hF]; kernel_rfl) (by rw [hF]; kernel_rfl)
              · exact RegJ.doesP_val (by decide) hJ (ev_load q7 rfl (by rw [hF]; kernel_rfl)) (by rw [hF]; kernel_rfl) (by rw [hF]; kernel_rfl)
              · exact RegJ.doesP_call (by decide) (fun w'' hw'' => hJ.after hw'') (fun w'' hw'' h => h.after hw'') (by have h := rmay_c (⟨3, 0, sx⟩ : Val) w' HSz.out; rw [Hrb.out] at h; exact h) (ev_call enRMay1 rfl (by rw [hF]; kernel_rfl)) (by rw [hF]; kernel_rfl) (by rw [hF]; kernel_rfl)
              · exact RegJ.doesP_val (by decide) hJ (ev_move rfl) (by rw [hF]; kernel_rfl) (by rw [hF]; kernel_rfl)
              · exact RegJ.doesP_skip (by decide) (by rw [hF]; kernel_rfl) (by rw [hF]; kernel_rfl)
              · exact RegJ.doesP_skip (by decide) (by rw [hF]; kernel_rfl) (by rw [hF]; kernel_rfl)
              · exact RegJ.doesP_skip (by decide) (by rw [hF]; kernel_rfl) (by rw [hF]; kernel_rfl)
              · exact RegJ.doesP_skip (by decide) (by rw [hF]; kernel_rfl) (by rw [hF]; kernel_rfl)
              · exact RegJ.doesP_val (by decide) hJ (ev_pick false rfl (by rw [hF]; kernel_rfl)) (by rw [hF]; kernel_rfl) (by rw [hF]; kernel_rfl)
              · exact RegJ.doesP_store (hJ.put q4) (q4.put _) (ev_store q4 rfl (by rw [hF]; kernel_rfl) (by rw [hF]; kernel_rfl)) rfl (by rw [hF]; kernel_rfl)
              · exact RegJ.doesP_val (by decide) hJ (ev_assign rfl) (by rw [hF]; kernel_rfl) (by rw [hF]; kernel_rfl)
              · exact RegJ.doesP_val (by decide) hJ (ev_assign rfl) (by rw [hF]; kernel_rfl) (by rw [hF]; kernel_rfl)
            · intro w9 hJ hR
              simp only [Reg.putAll, Act.put, List.setIfInBounds_toArray, List.set_cons_zero, List.set_cons_succ]
              go_wp2
              exact take_ret hR rfl rfl rfl rfl ⟨hJ.2.2, (⟨3, 0, sx⟩ : Val), (A + 2), by rw [Hrb.out]; rfl, z64 _ rfl, Hap.out, Hpost.out⟩
          · refine RegJ.wp_region_keep mixed (by kernel_rfl) (TakeJ w (⟨3, 0, sx⟩ : Val)) (fun w' => Bx w' w.heap.size (⟨3, 0, sx⟩ : Val)) 10 (of_decide_eq_true (by kernel_rfl)) JJ [(104, (⟨3, 0, sx⟩ : Val).v), (105, .int .i64 ((A + 2 : Nat) : Int)), (106, (⟨3, 0, sx⟩ : Val).v), (107, .bool true), (108, .bool true), (109, .int .i64 ((A + 2 : Nat) : Int)), (110, .string s), (111, .int .i64 s.size), (112, .bool lb), (113, .bool lb), (5, .int .i64 ((A + 2 : Nat) : Int)), (6, .bool lb)] 114 rfl (by kernel_rfl) ?_ ?_
            · intro F hF w' hJ
              obtain ⟨⟨z, q4⟩, q7, qb⟩ := id hJ
              refine ⟨?_, ?_, ?_, ?_, ?_, ?_, ?_, ?_, ?_, ?_, ?_, ?_, ?_, trivial⟩
              · exact RegJ.doesP_val (by decide) hJ (ev_load q7 rfl (by rw [hF]; kernel_rfl)) (by rw [hF]; kernel_rfl) (by rw [hF]; kernel_rfl)
              · exact RegJ.doesP_val (by decide) hJ (ev_move rfl) (by rw [hF]; kernel_rfl) (by rw [hF]; kernel_rfl)
              · exact RegJ.doesP_val (by decide) hJ (ev_load q7 rfl (by rw [hF]; kernel_rfl)) (by rw [hF]; kernel_rfl) (by rw [hF]; kernel_rfl)
              · exact RegJ.doesP_call (by decide) (fun w'' hw'' => hJ.after hw'') (fun w'' hw'' h => h.after hw'') (by have h := rmay_c (⟨3, 0, sx⟩ : Val) w' HSz.out; rw [Hrb.out] at h; exact h) (ev_call enRMay1 rfl (by rw [hF]; kernel_rfl)) (by rw [hF]; kernel_rfl) (by rw [hF]; kernel_rfl)
              · exact RegJ.doesP_val (by decide) hJ (ev_move rfl) (by rw [hF]; kernel_rfl) (by rw [hF]; kernel_rfl)
              · exact RegJ.doesP_val (by decide) hJ (ev_move rfl) (by rw [hF]; kernel_rfl) (by rw [hF]; kernel_rfl)
              · exact RegJ.doesP_val (by decide) hJ (ev_move rfl) (by rw [hF]; kernel_rfl) (by rw [hF]; kernel_rfl)
              · exact RegJ.doesP_val (by decide) hJ (ev_lenS (s := s) rfl (by rw [hF]; kernel_rfl) (by omega)) (by rw [hF]; kernel_rfl) (by rw [hF]; kernel_rfl)
              · exact RegJ.doesP_val (by decide) hJ (by rw [ev_leqI (a := A + 2) (b := s.size) rfl (by rw [hF]; kernel_rfl) (by rw [hF]; kernel_rfl), Hlb.out]) (by rw [hF]; kernel_rfl) (by rw [hF]; kernel_rfl)
              · exact RegJ.doesP_val (by decide) hJ (ev_pick true rfl (by rw [hF]; kernel_rfl)) (by rw [hF]; kernel_rfl) (by rw [hF]; kernel_rfl)
              · exact RegJ.doesP_store (hJ.put q4) (q4.put _) (ev_store q4 rfl (by rw [hF]; kernel_rfl) (by rw [hF]; kernel_rfl)) rfl (by rw [hF]; kernel_rfl)
              · exact RegJ.doesP_val (by decide) hJ (ev_assign rfl) (by rw [hF]; kernel_rfl) (by rw [hF]; kernel_rfl)
              · exact RegJ.doesP_val (by decide) hJ (ev_assign rfl) (by rw [hF]; kernel_rfl) (by rw [hF]; kernel_rfl)
            · intro w9 hJ hR
              simp only [Reg.putAll, Act.put, List.setIfInBounds_toArray, List.set_cons_zero, List.set_cons_succ]
              go_wp2
              exact take_ret hR rfl rfl rfl rfl ⟨hJ.2.2, (⟨3, 0, sx⟩ : Val), (A + 2), by rw [Hrb.out, Hlb.out]; rfl, z64 _ rfl, Hap.out, Hpost.out⟩
    · have hend : scanT (s.data.toList.drop A) = ([], 0) := scan_end _ (fun b c r h => by
        have h2 := congrArg List.length h
        rw [drop_len] at h2
        simp only [List.length_cons] at h2
        omega)
      rw [hend, List.append_nil] at hscan
      have d1 : decide ((A : Int) + 1 < (s.size : Int)) = false := decide_eq_false (by omega)
      clear hend
      have Hpost := Lib.hid (post_4 s a S n ha HK.out hscan)
      have Hap := Lib.hid (show a < A + 2 by omega)
      have Hp2 : Hid (∀ y r, cut1 (s.data.toList.drop a) = some (y, r) → (⟨3, 0, ⟨S.toArray⟩⟩ : Val) = y ∧ A + 2 + r.length = s.size) := fun y r h => by
        obtain ⟨h1, h2⟩ := Hpost.out y r h
        exact ⟨h1, by omega⟩
      clear Hpost
      have Hpost := Hp2
      clear Hp2
      have hSz : (⟨S.toArray⟩ : ByteArray).size ≤ maxLen := by
        rw [size_mk]
        unfold maxLen
        omega
      have HSz := Lib.hid hSz
      clear hSz
      generalize (⟨S.toArray⟩ : ByteArray) = sx at Hpost HSz b7 ⊢
      go_wp2_with fail
      have JJ : TakeJ w (⟨3, 0, sx⟩ : Val) wr.drew := ⟨⟨_, b4⟩, b7, ⟨hb.os, hb.tape, hb.output, hb.size, hb.block⟩⟩
      obtain ⟨rb, hrb⟩ : ∃ rb, rmB (⟨3, 0, sx⟩ : Val) = rb := ⟨_, rfl⟩
      have Hrb := Lib.hid hrb
      obtain ⟨lb, hlb⟩ : ∃ lb, decide ((A + 2) ≤ s.size) = lb := ⟨_, rfl⟩
      have Hlb := Lib.hid hlb
      clear hrb hlb
      cases rb
      · refine RegJ.wp_region_keep mixed (by kernel_rfl) (TakeJ w (⟨3, 0, sx⟩ : Val)) (fun w' => Bx w' w.heap.size (⟨3, 0, sx⟩ : Val)) 10 (of_decide_eq_true (by kernel_rfl)) JJ [(104, (⟨3, 0, sx⟩ : Val).v), (105, .int .i64 ((A + 2 : Nat) : Int)), (106, (⟨3, 0, sx⟩ : Val).v), (107, .bool false), (108, .bool false), (109, undef), (110, undef), (111, undef), (112, undef), (113, .bool false), (5, .int .i64 ((A + 2 : Nat) : Int)), (6, .bool false)] 114 rfl (by kernel_rfl) ?_ ?_
        · intro F hF w' hJ
          obtain ⟨⟨z, q4⟩, q7, qb⟩ := id hJ
          refine ⟨?_, ?_, ?_, ?_, ?_, ?_, ?_, ?_, ?_, ?_, ?_, ?_, ?_, trivial⟩
          · exact RegJ.doesP_val (by decide) hJ (ev_load q7 rfl (by rw [hF]; kernel_rfl)) (by rw [hF]; kernel_rfl) (by rw [hF]; kernel_rfl)
          · exact RegJ.doesP_val (by decide) hJ (ev_move rfl) (by rw [hF]; kernel_rfl) (by rw [hF]; kernel_rfl)
          · exact RegJ.doesP_val (by decide) hJ (ev_load q7 rfl (by rw [hF]; kernel_rfl)) (by rw [hF]; kernel_rfl) (by rw [hF]; kernel_rfl)
          · exact RegJ.doesP_call (by decide) (fun w'' hw'' => hJ.after hw'') (fun w'' hw'' h => h.after hw'') (by have h := rmay_c (⟨3, 0, sx⟩ : Val) w' HSz.out; rw [Hrb.out] at h; exact h) (ev_call enRMay1 rfl (by rw [hF]; kernel_rfl)) (by rw [hF]; kernel_rfl) (by rw [hF]; kernel_rfl)
          · exact RegJ.doesP_val (by decide) hJ (ev_move rfl) (by rw [hF]; kernel_rfl) (by rw [hF]; kernel_rfl)
          · exact RegJ.doesP_skip (by decide) (by rw [hF]; kernel_rfl) (by rw [hF]; kernel_rfl)
          · exact RegJ.doesP_skip (by decide) (by rw [hF]; kernel_rfl) (by rw [hF]; kernel_rfl)
          · exact RegJ.doesP_skip (by decide) (by rw [hF]; kernel_rfl) (by rw [hF]; kernel_rfl)
          · exact RegJ.doesP_skip (by decide) (by rw [hF]; kernel_rfl) (by rw [hF]; kernel_rfl)
          · exact RegJ.doesP_val (by decide) hJ (ev_pick false rfl (by rw [hF]; kernel_rfl)) (by rw [hF]; kernel_rfl) (by rw [hF]; kernel_rfl)
          · exact RegJ.doesP_store (hJ.put q4) (q4.put _) (ev_store q4 rfl (by rw [hF]; kernel_rfl) (by rw [hF]; kernel_rfl)) rfl (by rw [hF]; kernel_rfl)
          · exact RegJ.doesP_val (by decide) hJ (ev_assign rfl) (by rw [hF]; kernel_rfl) (by rw [hF]; kernel_rfl)
          · exact RegJ.doesP_val (by decide) hJ (ev_assign rfl) (by rw [hF]; kernel_rfl) (by rw [hF]; kernel_rfl)
        · intro w9 hJ hR
          simp only [Reg.putAll, Act.put, List.setIfInBounds_toArray, List.set_cons_zero, List.set_cons_succ]
          go_wp2
          exact take_ret hR rfl rfl rfl rfl ⟨hJ.2.2, (⟨3, 0, sx⟩ : Val), (A + 2), by rw [Hrb.out]; rfl, z64 _ rfl, Hap.out, Hpost.out⟩
      · refine RegJ.wp_region_keep mixed (by kernel_rfl) (TakeJ w (⟨3, 0, sx⟩ : Val)) (fun w' => Bx w' w.heap.size (⟨3, 0, sx⟩ : Val)) 10 (of_decide_eq_true (by kernel_rfl)) JJ [(104, (⟨3, 0, sx⟩ : Val).v), (105, .int .i64 ((A + 2 : Nat) : Int)), (106, (⟨3, 0, sx⟩ : Val).v), (107, .bool true), (108, .bool true), (109, .int .i64 ((A + 2 : Nat) : Int)), (110, .string s), (111, .int .i64 s.size), (112, .bool lb), (113, .bool lb), (5, .int .i64 ((A + 2 : Nat) : Int)), (6, .bool lb)] 114 rfl (by kernel_rfl) ?_ ?_
        · intro F hF w' hJ
          obtain ⟨⟨z, q4⟩, q7, qb⟩ := id hJ
          refine ⟨?_, ?_, ?_, ?_, ?_, ?_, ?_, ?_, ?_, ?_, ?_, ?_, ?_, trivial⟩
          · exact RegJ.doesP_val (by decide) hJ (ev_load q7 rfl (by rw [hF]; kernel_rfl)) (by rw [hF]; kernel_rfl) (by rw [hF]; kernel_rfl)
          · exact RegJ.doesP_val (by decide) hJ (ev_move rfl) (by rw [hF]; kernel_rfl) (by rw [hF]; kernel_rfl)
          · exact RegJ.doesP_val (by decide) hJ (ev_load q7 rfl (by rw [hF]; kernel_rfl)) (by rw [hF]; kernel_rfl) (by rw [hF]; kernel_rfl)
          · exact RegJ.doesP_call (by decide) (fun w'' hw'' => hJ.after hw'') (fun w'' hw'' h => h.after hw'') (by have h := rmay_c (⟨3, 0, sx⟩ : Val) w' HSz.out; rw [Hrb.out] at h; exact h) (ev_call enRMay1 rfl (by rw [hF]; kernel_rfl)) (by rw [hF]; kernel_rfl) (by rw [hF]; kernel_rfl)
          · exact RegJ.doesP_val (by decide) hJ (ev_move rfl) (by rw [hF]; kernel_rfl) (by rw [hF]; kernel_rfl)
          · exact RegJ.doesP_val (by decide) hJ (ev_move rfl) (by rw [hF]; kernel_rfl) (by rw [hF]; kernel_rfl)
          · exact RegJ.doesP_val (by decide) hJ (ev_move rfl) (by rw [hF]; kernel_rfl) (by rw [hF]; kernel_rfl)
          · exact RegJ.doesP_val (by decide) hJ (ev_lenS (s := s) rfl (by rw [hF]; kernel_rfl) (by omega)) (by rw [hF]; kernel_rfl) (by rw [hF]; kernel_rfl)
          · exact RegJ.doesP_val (by decide) hJ (by rw [ev_leqI (a := A + 2) (b := s.size) rfl (by rw [hF]; kernel_rfl) (by rw [hF]; kernel_rfl), Hlb.out]) (by rw [hF]; kernel_rfl) (by rw [hF]; kernel_rfl)
          · exact RegJ.doesP_val (by decide) hJ (ev_pick true rfl (by rw [hF]; kernel_rfl)) (by rw [hF]; kernel_rfl) (by rw [hF]; kernel_rfl)
          · exact RegJ.doesP_store (hJ.put q4) (q4.put _) (ev_store q4 rfl (by rw [hF]; kernel_rfl) (by rw [hF]; kernel_rfl)) rfl (by rw [hF]; kernel_rfl)
          · exact RegJ.doesP_val (by decide) hJ (ev_assign rfl) (by rw [hF]; kernel_rfl) (by rw [hF]; kernel_rfl)
          · exact RegJ.doesP_val (by decide) hJ (ev_assign rfl) (by rw [hF]; kernel_rfl) (by rw [hF]; kernel_rfl)
        · intro w9 hJ hR
          simp only [Reg.putAll, Act.put, List.setIfInBounds_toArray, List.set_cons_zero, List.set_cons_succ]
          go_wp2
          exact take_ret hR rfl rfl rfl rfl ⟨hJ.2.2, (⟨3, 0, sx⟩ : Val), (A + 2), by rw [Hrb.out, Hlb.out]; rfl, z64 _ rfl, Hap.out, Hpost.out⟩
theorem take_c (s : ByteArray) (a : Nat) (w : World) (hs : s.size ≤ 100000) (ha : a < s.size) : Calls Tryd.prog 19 #[.string s, .int .i64 a] w (TakePost s a w) := by
  by_cases h2 : (s[a].toNat : Int) = 2
  · exact take_bool s a w hs ha h2
  by_cases h3 : (s[a].toNat : Int) = 3
  · exact take_int s a w hs ha h3
  by_cases h4 : (s[a].toNat : Int) = 4
  · exact take_text s a w hs ha h4
  exact take_other s a w hs ha h2 h3 h4
end Go.Proofs.YtkbgcgkblbbcbaaDoor
