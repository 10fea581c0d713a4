/-
  The document's bytes of a value, and of a list: they are the program's, of every value that may be.
-/
import Derived.Test.YtkbgcgkblbbcbaaDoorRisesW
import Derived.Laws.Concat
namespace Go.Proofs.YtkbgcgkblbbcbaaDoor
open Go Go.RowKit

theorem size_alloc1 (w : World) (o : Obj) : (w.alloc o).heap.size = w.heap.size + 1 := by simp
theorem Buf.new1 (w : World) (g : Nat) (hg : g = w.heap.size) (b : UInt8) (c : Int) (hc : c = b.toNat) : Buf (w.alloc (.cells #[.int .u8 c] 5)) w.heap.size (.slice (some ⟨g, 0, none⟩) 1 1) [b] := by
  subst hc hg
  refine ⟨rfl, .inr ⟨w.heap.size, 1, #[.int .u8 b.toNat], rfl, Nat.le_refl _, ?_, Nat.le_refl _, by unfold maxLen; omega, rfl, rfl⟩⟩
  show (w.heap.push _)[w.heap.size]? = _
  simp
/-- append, of the end of a text. -/
theorem wpList_appE {ops : Array Oper} {rest : List Oper} {o : Oper} {a : Act} {Q : Exit → Act → World → Prop} {w0 : World} (hgd : o.guard = none) (s x : Operand) (ho : o.op = .call { callee := .builtin .append, args := #[s, x], argTypes := #[41, 41] })
    (B : Nat) (v : Value) (bs : List UInt8) (hs : a.eval s = v) (hb : Buf w0 B v bs) (g : Nat) (hx : a.eval x = .slice (some ⟨g, 0, none⟩) 2 2) (hg : g = w0.heap.size)
    (hmax : bs.length ≤ 1000000) (hB : B ≤ w0.heap.size)
    (h : ∀ v' w', Buf w' B v' (bs ++ [0, 1]) → w0.grownBy w' v.ownBlock → wpList Tryd.prog ops Q rest (a.put o.dst v') w') : wpList Tryd.prog ops Q (o :: rest) a (w0.alloc (.cells #[.int .u8 0, .int .u8 1] 5)) := by
  obtain ⟨i0, hi, hz0, hz1, hz2⟩ := info_parts u8Info
  subst hg
  have hal := hb.alloc (.cells #[.int .u8 0, .int .u8 1] 5)
  have hcell : ∀ i, (w0.alloc (.cells #[.int .u8 0, .int .u8 1] 5)).cell? ⟨w0.heap.size, i, none⟩ = (#[Value.int .u8 0, Value.int .u8 1])[i]? := fun i => by
    have e : (w0.alloc (.cells #[.int .u8 0, .int .u8 1] 5)).heap[w0.heap.size]? = some (.cells #[.int .u8 0, .int .u8 1] 5 (0, 0)) := by
      show (w0.heap.push _)[w0.heap.size]? = _
      simp
    simp only [World.cell?, e, Option.isSome_none, Bool.false_eq_true, if_false]
  refine wpList_append_own_at _ hgd s x 41 ho B 5 i0 (.int .u8 0) 1 1 Tryd.underlying41 hi hz0 hz1 hz2 (by decide) (by decide) v bs.length (bcells bs) hs hal ⟨w0.heap.size, 0, none⟩ 2 2 [.int .u8 0, .int .u8 1] hx rfl (fun j u hj => ?_) (fun u hu => ?_) (by unfold maxLen; omega) (by omega) (by simp; omega) ?_
  · rw [Go.WideShapes.add_plain, Nat.zero_add]
    rw [hcell]
    simpa using hj
  · simp only [List.mem_cons, List.not_mem_nil, or_false] at hu
    rcases hu with rfl | rfl <;> rfl
  intro v' w' hown' hgrow _ _
  refine h v' w' ?_ ((World.grownBy_alloc w0 _ _).trans hgrow)
  unfold Buf
  rw [bcells_append, List.length_append]
  exact hown'

set_option maxHeartbeats 1000000 in
theorem one_null (w : World) : Calls Tryd.prog 20 #[.agg #[.int .i64 0, .int .i64 0, .string emp]] w fun e w' => e = .returned (.string ⟨#[1]⟩) ∧ Below w.heap.size w w' := by
  have hconv := (Buf.new1 (w.alloc (.cells #[.int .i64 0, .int .i64 0, .string emp] 32)) (w.heap.size + 1) (by simp) 1 1 rfl).conv
  go_enter Tryd.func20, Tryd.ntmps20
  go_wp2
  go_ret
  exact ⟨rfl, below_two _ _ _⟩

/-- What is known behind an append to the buffer that one makes. -/
theorem one_below {w w1 : World} {o o' : Obj} {v : Value} {bs : List UInt8} (hb : Buf ((w.alloc o).alloc o') (w.alloc o).heap.size v bs) (hg : ((w.alloc o).alloc o').grownBy w1 v.ownBlock) : Below w.heap.size w w1 :=
  (below_two w o o').grown hg (by simp; omega) (fun k hk => by have := (hb.lt k hk).1; rw [size_alloc1] at this; omega)

set_option maxHeartbeats 1000000 in
theorem one_bool (n : Int) (w : World) (hn : n = 0 ∨ n = 1) : Calls Tryd.prog 20 #[.agg #[.int .i64 1, .int .i64 n, .string emp]] w fun e w' => e = .returned (.string ⟨(2 :: bitsB n.toNat 1).toArray⟩) ∧ Below w.heap.size w w' := by
  rcases hn with rfl | rfl
  · have Hbuf := Lib.hid (Buf.new1 (w.alloc (.cells #[.int .i64 1, .int .i64 0, .string emp] 32)) (w.heap.size + 1) (by simp) 2 2 rfl)
    go_enter Tryd.func20, Tryd.ntmps20
    go_wp2_with (at_builtin; go_must (
      refine wpList_appB rfl (.tmp 17) (.tmp 21) rfl (w.alloc (.cells #[.int .i64 1, .int .i64 0, .string emp] 32)).heap.size _ [2] 0 rfl Hbuf.out rfl _ rfl (by simp) (by decide) (by simp) ?_
      intro v1 w1 hb1 hg1
      have hconv := hb1.conv
      have hbw := one_below Hbuf.out hg1
      clear hb1 hg1))
    go_ret
    exact ⟨rfl, hbw⟩
  · have Hbuf := Lib.hid (Buf.new1 (w.alloc (.cells #[.int .i64 1, .int .i64 1, .string emp] 32)) (w.heap.size + 1) (by simp) 2 2 rfl)
    go_enter Tryd.func20, Tryd.ntmps20
    go_wp2_with (at_builtin; go_must (
      refine wpList_appB rfl (.tmp 17) (.tmp 21) rfl (w.alloc (.cells #[.int .i64 1, .int .i64 1, .string emp] 32)).heap.size _ [2] 1 rfl Hbuf.out rfl _ rfl (by simp) (by decide) (by simp) ?_
      intro v1 w1 hb1 hg1
      have hconv := hb1.conv
      have hbw := one_below Hbuf.out hg1
      clear hb1 hg1))
    go_ret
    exact ⟨rfl, hbw⟩

def unitN : Nat → Nat
  | 0 => 0
  | k + 1 => 256 ^ k
theorem unit_div (k : Nat) : ((256 ^ k : Nat) : Int) / 256 = (unitN k : Int) := by
  cases k with
  | zero => rfl
  | succ k =>
    have : (256 : Nat) ^ (k + 1) = 256 ^ k * 256 := Nat.pow_succ ..
    rw [this]
    show _ = ((256 ^ k : Nat) : Int)
    omega
theorem unit_byte (U j : Nat) : ((U : Int) / ((256 ^ j : Nat) : Int) % 256) = ((UInt8.ofNat (U / 2 ^ (8 * j))).toNat : Int) := by
  rw [UInt8.toNat_ofNat', pow8, Int.natCast_emod, Int.natCast_ediv]
  rfl
theorem quo_byte (U N : Nat) (hU : U < 18446744073709551616) : (IntKind.u64.wrap ((U : Int) / (N : Int))).tmod 256 % 256 = (U : Int) / (N : Int) % 256 := by
  have h : ((U : Int) / (N : Int)) = ((U / N : Nat) : Int) := (Int.natCast_ediv U N).symm
  have h2 : U / N ≤ U := Nat.div_le_self _ _
  rw [h]
  generalize U / N = q at h2
  have e : IntKind.u64.wrap (q : Int) = (q : Int) := by rw [IntKind.wrap_u64]; omega
  rw [e, Int.tmod_eq_emod_of_nonneg (by omega)]
  omega
def OneRel (B : Nat) (w0 : World) (U j k : Nat) (v : Value) (wr : World) : Prop :=
  j + k = 8 ∧ B ≤ wr.heap.size ∧ Below B w0 wr ∧ ∃ d, d.length = j ∧ Buf wr B v (3 :: d) ∧ d ++ bitsB U k = bitsB U 8

set_option maxHeartbeats 2000000 in
theorem one_int (n : Int) (w : World) (hn : -9223372036854775808 ≤ n ∧ n ≤ 9223372036854775807) : Calls Tryd.prog 20 #[.agg #[.int .i64 2, .int .i64 n, .string emp]] w fun e w' => e = .returned (.string ⟨(3 :: bitsB (n + 9223372036854775808).toNat 8).toArray⟩) ∧ Below w.heap.size w w' := by
  have Hbuf := Lib.hid (Buf.new1 (w.alloc (.cells #[.int .i64 2, .int .i64 n, .string emp] 32)) (w.heap.size + 1) (by simp) 3 3 rfl)
  have Hn := Lib.hid hn
  clear hn
  go_enter Tryd.func20, Tryd.ntmps20
  go_wp2_with fail
  obtain ⟨U, hU0⟩ : ∃ U, (n + 9223372036854775808).toNat = U := ⟨_, rfl⟩
  rw [wrap_shift n Hn.out, hU0]
  have hU : U < 18446744073709551616 := by have := Hn.out; omega
  have HU0 := Lib.hid hU0
  clear hU0
  have hb0 := below_two w (.cells #[.int .i64 2, .int .i64 n, .string emp] 32) (.cells #[.int .u8 3] 5)
  have hBB : w.heap.size ≤ (w.alloc (.cells #[.int .i64 2, .int .i64 n, .string emp] 32)).heap.size := by simp
  have hsz : (w.alloc (.cells #[.int .i64 2, .int .i64 n, .string emp] 32)).heap.size ≤ ((w.alloc (.cells #[.int .i64 2, .int .i64 n, .string emp] 32)).alloc (.cells #[.int .u8 3] 5)).heap.size := by simp
  generalize ((w.alloc (.cells #[.int .i64 2, .int .i64 n, .string emp] 32)).alloc (.cells #[.int .u8 3] 5)) = w0 at Hbuf hb0 hsz ⊢
  generalize (w.alloc (.cells #[.int .i64 2, .int .i64 n, .string emp] 32)).heap.size = B at Hbuf hBB hsz ⊢
  go_loopw [3, 5, 6] (fun x un i wr => ∃ j k : Nat, i = .int .i64 j ∧ un = .int .u64 (unitN k : Int) ∧ OneRel B w0 U j k x wr) (fun _ _ i _ => 8 - (intOf i).toNat)
  case atStart => exact ⟨0, 8, rfl, rfl, rfl, hsz, Below.refl _ _, [], rfl, Hbuf.out, rfl⟩
  case round =>
    obtain ⟨j, k, rfl, rfl, hjk, hBr, hbr, d, hdl, hbuf, hd⟩ := hrel
    have Hb := Lib.hid hbuf
    have Hd := Lib.hid hd
    have Hl := Lib.hid (show (3 :: d).length ≤ 1000000 by rw [List.length_cons, hdl]; omega)
    have Hdl := Lib.hid hdl
    clear hbuf hd hdl
    cases k with
    | zero =>
      obtain rfl : j = 8 := by omega
      have hconv := Hb.out.conv
      have e : (3 :: d : List UInt8) = 3 :: bitsB U 8 := by have := Hd.out; rw [bitsB, List.append_nil] at this; rw [this]
      rw [e] at hconv
      clear e
      have hbw : Below w.heap.size w wr := hb0.trans (hbr.mono hBB)
      go_wp2
      go_ret
      exact ⟨congrArg (fun U => Ending.returned (Value.string ⟨(3 :: bitsB U 8).toArray⟩)) HU0.out.symm, hbw⟩
    | succ k =>
      have hj8 : j < 8 := by omega
      have hN : 0 < 256 ^ k := Nat.pow_pos (by omega)
      have hN2 : 256 ^ k < 18446744073709551616 := by
        have h1 : (256 : Nat) ^ k ≤ 256 ^ 7 := Nat.pow_le_pow_right (by omega) (by omega)
        have h2 : (256 : Nat) ^ 7 = 72057594037927936 := rfl
        omega
      have hu := unit_div k
      have hc := unit_byte U k
      rw [unitN]
      generalize 256 ^ k = N at hN hN2 hu hc ⊢
      have Hu := Lib.hid hu
      have Hc := Lib.hid hc
      clear hu hc
      go_wp2_with (at_builtin; go_must (refine wpList_appB rfl (.tmp 33) (.tmp 39) rfl B _ (3 :: d) (UInt8.ofNat (U / 2 ^ (8 * k))) rfl Hb.out ((quo_byte U N hU).trans Hc.out) _ rfl rfl Hl.out hBr ?_; intro v1 w1 hb1 hg1))
      have hb2 : Below B w0 w1 := hbr.grown hg1 hBr (fun q hq => (Hb.out.lt q hq).1)
      have hB2 : B ≤ w1.heap.size := Nat.le_trans hBr hg1.size
      have Hb1 := Lib.hid hb1
      clear hb1 hg1
      go_wp2
      go_roundw
      case rel => exact ⟨j + 1, k, by go_num, congrArg (Value.int .u64) Hu.out, by omega, hB2, hb2, d ++ [UInt8.ofNat (U / 2 ^ (8 * k))], by rw [List.length_append, Hdl.out]; rfl, Hb1.out, by rw [List.append_assoc]; exact Hd.out⟩
      case measure => simp [intOf]; omega

theorem sub1_snoc (c : UInt8) (new : List UInt8) : ∀ (l : List UInt8) (b : UInt8), sub1 c new (l ++ [b]) = sub1 c new l ++ (if b = c then new else [b])
  | [], b => by simp [sub1]
  | x :: l, b => by
    rw [List.cons_append, sub1, sub1, sub1_snoc c new l b]
    split <;> simp
def TxRel (B : Nat) (w0 : World) (s : ByteArray) (k : Nat) (v : Value) (wr : World) : Prop :=
  k ≤ s.size ∧ B ≤ wr.heap.size ∧ Below B w0 wr ∧ Buf wr B v (4 :: sub1 0 [0, 255] (s.data.toList.take k))

set_option maxHeartbeats 4000000 in
theorem one_text (s : ByteArray) (w : World) (hs : s.size ≤ 1000) : Calls Tryd.prog 20 #[.agg #[.int .i64 3, .int .i64 0, .string s]] w fun e w' => e = .returned (.string ⟨(4 :: encT s.data.toList).toArray⟩) ∧ Below w.heap.size w w' := by
  have Hbuf := Lib.hid (Buf.new1 (w.alloc (.cells #[.int .i64 3, .int .i64 0, .string s] 32)) (w.heap.size + 1) (by simp) 4 4 rfl)
  have hbx := (Bx.new w ⟨3, 0, s⟩).alloc (.cells #[.int .u8 4] 5)
  have hc2 : ((w.alloc (.cells #[.int .i64 3, .int .i64 0, .string s] 32)).alloc (.cells #[.int .u8 4] 5)).cell? ⟨w.heap.size, 2, none⟩ = some (.string s) := hbx.cell2
  clear hbx
  go_enter Tryd.func20, Tryd.ntmps20
  go_wp2_with fail
  have hb0 := below_two w (.cells #[.int .i64 3, .int .i64 0, .string s] 32) (.cells #[.int .u8 4] 5)
  have hBB : w.heap.size < (w.alloc (.cells #[.int .i64 3, .int .i64 0, .string s] 32)).heap.size := by simp
  have hsz : (w.alloc (.cells #[.int .i64 3, .int .i64 0, .string s] 32)).heap.size ≤ ((w.alloc (.cells #[.int .i64 3, .int .i64 0, .string s] 32)).alloc (.cells #[.int .u8 4] 5)).heap.size := by simp
  generalize ((w.alloc (.cells #[.int .i64 3, .int .i64 0, .string s] 32)).alloc (.cells #[.int .u8 4] 5)) = w0 at Hbuf hb0 hsz hc2 ⊢
  generalize (w.alloc (.cells #[.int .i64 3, .int .i64 0, .string s] 32)).heap.size = B at Hbuf hBB hsz ⊢
  have Hc2 := Lib.hid hc2
  clear hc2
  go_loopw [3, 7] (fun x i wr => ∃ k : Nat, i = .int .i64 k ∧ TxRel B w0 s k x wr) (fun _ i _ => s.size - (intOf i).toNat)
  case atStart => exact ⟨0, rfl, Nat.zero_le _, hsz, Below.refl _ _, Hbuf.out⟩
  case round =>
    obtain ⟨k, rfl, hk, hBr, hbr, hbuf⟩ := hrel
    have Hb := Lib.hid hbuf
    have hl : (4 :: sub1 0 [0, 255] (s.data.toList.take k)).length ≤ 900000 := by
      have h1 := sub1_length 0 [0, 255] (s.data.toList.take k)
      have h2 : (s.data.toList.take k).length ≤ 1000 := by rw [List.length_take]; omega
      simp only [List.length_cons, List.length_nil] at h1 ⊢
      omega
    have Hl := Lib.hid hl
    clear hbuf hl
    have d2 : wr.cell? ⟨w.heap.size, 2, none⟩ = some (.string s) := (hbr.cell (p := ⟨w.heap.size, 2, none⟩) hBB).trans Hc2.out
    by_cases hlt : k < s.size
    · have htk := take_snoc s k hlt
      have hsn : sub1 0 [0, 255] (s.data.toList.take (k + 1)) = sub1 0 [0, 255] (s.data.toList.take k) ++ (if s[k] = 0 then [0, 255] else [s[k]]) := by rw [htk, sub1_snoc]
      cases h0 : ((s[k].toNat : Int) == 0)
      · have hne : s[k] ≠ 0 := by
          intro h
          rw [h] at h0
          exact absurd h0 (by decide)
        rw [if_neg hne] at hsn
        have Hsn := Lib.hid hsn
        clear hsn htk hne
        go_wp2_with (at_builtin; go_must (
          refine wpList_appB rfl (.tmp 52) (.tmp 57) rfl B _ _ s[k] rfl Hb.out rfl _ rfl rfl (Nat.le_trans Hl.out (by omega)) hBr ?_
          intro v1 w1 hb1 hg1
          have hb2 : Below B w0 w1 := hbr.grown hg1 hBr (fun q hq => (Hb.out.lt q hq).1)
          have hB2 : B ≤ w1.heap.size := Nat.le_trans hBr hg1.size
          have e2 : w1.cell? ⟨w.heap.size, 2, none⟩ = some (.string s) := (hb2.cell (p := ⟨w.heap.size, 2, none⟩) hBB).trans Hc2.out
          have Hb1 := Lib.hid hb1
          clear hb1 hg1))
        go_roundw
        case rel => exact ⟨k + 1, by go_num, by omega, hB2, hb2, by rw [Hsn.out]; exact Hb1.out⟩
        case measure => simp [intOf]; omega
      · have hz : s[k] = 0 := UInt8.toNat_inj.1 (by simpa using h0)
        rw [if_pos hz] at hsn
        have Hz := Lib.hid hz
        have Hsn := Lib.hid hsn
        clear hsn htk hz
        go_wp2_with (at_builtin; first
          | (refine wpList_appB rfl (.tmp 52) (.tmp 57) rfl B _ _ s[k] rfl Hb.out rfl _ rfl rfl (Nat.le_trans Hl.out (by omega)) hBr ?_
             intro v1 w1 hb1 hg1
             have hb2 : Below B w0 w1 := hbr.grown hg1 hBr (fun q hq => (Hb.out.lt q hq).1)
             have hB2 : B ≤ w1.heap.size := Nat.le_trans hBr hg1.size
             have e2 : w1.cell? ⟨w.heap.size, 2, none⟩ = some (.string s) := (hb2.cell (p := ⟨w.heap.size, 2, none⟩) hBB).trans Hc2.out
             have Hb1 := Lib.hid hb1
             clear hb1 hg1)
          | (go_must (
             refine wpList_appB rfl (.tmp 64) (.tmp 65) rfl B _ _ 255 rfl Hb1.out rfl _ rfl rfl (by have := Hl.out; rw [List.length_append, List.length_singleton]; omega) hB2 ?_
             intro v2 w2 hb3 hg2
             have hb4 : Below B w0 w2 := hb2.grown hg2 hB2 (fun q hq => (Hb1.out.lt q hq).1)
             have hB4 : B ≤ w2.heap.size := Nat.le_trans hB2 hg2.size
             have Hb3 := Lib.hid hb3
             clear hb3 hg2)))
        go_roundw
        case rel => exact ⟨k + 1, by go_num, by omega, hB4, hb4, by rw [Hsn.out]; have := Hb3.out; rw [Hz.out] at this; simpa using this⟩
        case measure => simp [intOf]; omega
    · have hks : k = s.size := by omega
      have hfin : (4 :: sub1 0 [0, 255] (s.data.toList.take k)) ++ [0, 1] = 4 :: encT s.data.toList := by
        have e : s.data.toList.take k = s.data.toList := List.take_of_length_le (by have e5 : s.data.toList.length = s.size := rfl; omega)
        rw [e]
        rfl
      have Hfin := Lib.hid hfin
      clear hfin
      have hbw0 := hb0
      go_wp2_with (at_builtin; go_must (
        refine wpList_appE rfl (.tmp 67) (.tmp 68) rfl B _ _ rfl Hb.out _ rfl rfl (Nat.le_trans Hl.out (by omega)) hBr ?_
        intro v1 w1 hb1 hg1
        have hb2 : Below B w0 w1 := hbr.grown hg1 hBr (fun q hq => (Hb.out.lt q hq).1)
        have hconv := hb1.conv
        rw [Hfin.out] at hconv
        clear hb1 hg1))
      go_ret
      exact ⟨rfl, hbw0.trans (hb2.mono (by omega))⟩

theorem one_c (x : Val) (w : World) (hx : Valid x) (hi : In64 x) : Calls Tryd.prog 20 #[x.v] w fun e w' => e = .returned (.string ⟨(enc1 x).toArray⟩) ∧ Below w.heap.size w w' := by
  obtain ⟨k, n, s⟩ := x
  rcases hx with ⟨hk, h1, h2⟩ | ⟨hk, h1, h2⟩ | ⟨hk, h2⟩ | ⟨hk, h1, h2⟩
  · simp only at hk h1 h2
    subst hk h1 h2
    exact one_null w
  · simp only at hk h1 h2
    subst hk h2
    exact one_bool n w h1
  · simp only at hk h2
    subst hk h2
    exact one_int n w hi
  · simp only at hk h1 h2
    subst hk h1
    exact one_text s w h2
end Go.Proofs.YtkbgcgkblbbcbaaDoor
