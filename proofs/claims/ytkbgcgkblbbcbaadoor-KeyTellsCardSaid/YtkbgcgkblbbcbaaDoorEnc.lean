/-
  A list of values as bytes: what the program's Encode answers, of any list of short values.
-/
import Derived.Test.YtkbgcgkblbbcbaaDoorBuf
import Derived.Test.YtkbgcgkblbbcbaaDoorCmpL
import Derived.Test.YtkbgcgkblbbcbaaDoorPlain
import Derived.Test.YtkbgcgkblbbcbaaDoorShelf
namespace Go.Proofs.YtkbgcgkblbbcbaaDoor
open Go Go.RowKit

/-- The lowest bytes of a number, the highest first. -/
def bitsB (u : Nat) : Nat → List UInt8
  | 0 => []
  | k + 1 => UInt8.ofNat (u / 2 ^ (8 * k)) :: bitsB u k
theorem bitsB_length (u : Nat) : ∀ k, (bitsB u k).length = k
  | 0 => rfl
  | k + 1 => by rw [bitsB, List.length_cons, bitsB_length u k]

theorem byte_cast (u j : Nat) : ((u : Int) / 2 ^ (8 * j) % 256) = ((UInt8.ofNat (u / 2 ^ (8 * j))).toNat : Int) := by
  rw [UInt8.toNat_ofNat', Int.natCast_emod, Int.natCast_ediv, Int.natCast_pow]
  rfl

def BitsRel (B n : Nat) (w : World) (u : Nat) (bs : List UInt8) (k : Nat) (v : Value) (wr : World) : Prop :=
  k ≤ n ∧ n ≤ 8 ∧ B ≤ wr.heap.size ∧ Below B w wr ∧ ∃ d, Buf wr B v (bs ++ d) ∧ d ++ bitsB u k = bitsB u n

set_option maxHeartbeats 2000000 in
theorem appendBits_c (B n u : Nat) (v : Value) (bs : List UInt8) (w : World) (hn : n ≤ 8) (_hu : u < 18446744073709551616) (hB : B ≤ w.heap.size) (hb : Buf w B v bs) (hmax : bs.length ≤ 500000) :
    Calls Tryd.prog 29 #[v, .int .u64 u, .int .i64 n] w (BufPost B w (bs ++ bitsB u n)) := by
  have Hb := Lib.hid hb
  clear hb
  go_enter Tryd.func29, Tryd.ntmps29
  go_wp2_with fail
  go_loopw [0, 7] (fun x i wr => ∃ k : Nat, i = .int .i64 ((k : Int) - 1) ∧ BitsRel B n w u bs k x wr) (fun _ i _ => (intOf i + 1).toNat)
  case atStart => exact ⟨n, rfl, Nat.le_refl _, hn, hB, Below.refl _ _, [], by simpa using Hb.out, rfl⟩
  case round =>
    obtain ⟨k, rfl, hk, _, hBr, hbr, d, hbuf, hd⟩ := hrel
    have hdl : d.length ≤ 8 := by have := congrArg List.length hd; rw [List.length_append, bitsB_length, bitsB_length] at this; omega
    have hlen : (bs ++ d).length ≤ 1000000 := by rw [List.length_append]; omega
    have Hlen := Lib.hid hlen
    have Hbuf := Lib.hid hbuf
    have Hd := Lib.hid hd
    clear hbuf hd hlen
    cases k with
    | zero =>
      have e1 : (((0 : Nat) : Int) - 1) = -1 := rfl
      rw [e1]
      clear e1
      go_wp2
      go_ret
      have e : d = bitsB u n := by have := Hd.out; rwa [bitsB, List.append_nil] at this
      exact ⟨_, rfl, e ▸ Hbuf.out, hbr⟩
    | succ j =>
      have e1 : (((j + 1 : Nat) : Int) - 1) = (j : Int) := by omega
      rw [e1]
      have hj : j < 8 := by omega
      have hc : ((u : Int) / 2 ^ (8 * j) % 256) = ((UInt8.ofNat (u / 2 ^ (8 * j))).toNat : Int) := byte_cast u j
      have Hc := Lib.hid hc
      clear e1 hc
      go_wp2_with (at_builtin; go_must (refine wpList_appB rfl (.tmp 14) (.tmp 20) rfl B _ (bs ++ d) (UInt8.ofNat (u / 2 ^ (8 * j))) rfl Hbuf.out Hc.out _ rfl rfl Hlen.out hBr ?_; intro v1 w1 hb1 hg1))
      have hlt := Hbuf.out.lt
      have hb2 : Below B w w1 := hbr.grown hg1 hBr (fun k hk => (hlt k hk).1)
      have hB2 : B ≤ w1.heap.size := Nat.le_trans hBr hg1.size
      clear hg1 hlt
      have Hb1 := Lib.hid hb1
      clear hb1
      go_wp2
      go_roundw
      case rel => exact ⟨j, by go_num, by omega, hn, hB2, hb2, d ++ [UInt8.ofNat (u / 2 ^ (8 * j))], by rw [← List.append_assoc]; exact Hb1.out, by rw [List.append_assoc]; exact Hd.out⟩
      case measure => simp [intOf]

set_option maxHeartbeats 1000000 in
theorem appendText_c (B : Nat) (m : Int) (v : Value) (t : ByteArray) (bs : List UInt8) (w : World) (ht : t.size ≤ 1000) (hB : B ≤ w.heap.size) (_hgB : 0 < B) (hm : w.cell? ⟨0, 0, none⟩ = some (.int .i64 m)) (hb : Buf w B v bs) (hmax : bs.length ≤ 500000) :
    Calls Tryd.prog 30 #[v, .string t] w (BufPost B w (bs ++ (sub1 0 [0, 255] t.data.toList ++ [0, 1]))) := by
  have hr := replaceAll_sub1 0 [0, 255] t.data.toList (by simp)
  have hl := sub1_length 0 [0, 255] t.data.toList
  have hsz : t.data.toList.length = t.size := rfl
  rw [hsz] at hl
  generalize sub1 0 [0, 255] t.data.toList = r at hr hl ⊢
  have Hr := Lib.hid hr
  have hl2 : bs.length + (⟨r.toArray⟩ : ByteArray).size ≤ 1000000 := by
    have : (⟨r.toArray⟩ : ByteArray).size = r.length := by simp [ByteArray.size]
    rw [this]
    simp only [List.length_cons, List.length_nil] at hl
    omega
  have hl3 : (bs ++ r).length + (⟨#[0, 1]⟩ : ByteArray).size ≤ 1000000 := by
    have e2 : (⟨#[0, 1]⟩ : ByteArray).size = 2 := rfl
    rw [e2, List.length_append]
    simp only [List.length_cons, List.length_nil] at hl
    omega
  have hcnt : t.size + Lib.countB t ⟨#[0]⟩ * 2 ≤ 140737488355328 := by
    have := Lib.countB_mul_le ⟨#[0]⟩ (by decide) t.size t (Nat.le_refl _)
    have e1 : (⟨#[0]⟩ : ByteArray).size = 1 := rfl
    rw [e1] at this
    omega
  have Hl2 := Lib.hid hl2
  have Hl3 := Lib.hid hl3
  have Hcnt := Lib.hid hcnt
  have Hb := Lib.hid hb
  have Hm := Lib.hid hm
  clear hr hsz hl hl2 hl3 hcnt hb hm
  go_enter Tryd.func30, Tryd.ntmps30
  go_wp2_with fail
  refine (Tryd.strings_ReplaceAll _ _ _ m _ (by omega) Hm.out (by decide) Hcnt.out).mono ?_
  rintro e w1 ⟨rfl, hb1⟩
  have e1 : Lib.replaceAll t.data.toList (⟨#[0]⟩ : ByteArray).data.toList (⟨#[0, 255]⟩ : ByteArray).data.toList = r := Hr.out
  rw [e1]
  clear e1
  have Hb1 : Hid (Buf w1 B v bs) := Hb.out.after hb1
  have hbw : Below B w w1 := hb1.mono hB
  have hB1 : B ≤ w1.heap.size := Nat.le_trans hB hb1.size
  clear hb1 Hb
  go_wp2_with (at_builtin; first
    | (refine wpList_appS rfl (.tmp 5) (.tmp 7) rfl B _ bs ⟨r.toArray⟩ rfl Hb1.out rfl Hl2.out hB1 ?_
       intro v1 w2 hb2 hg2
       have hbw2 : Below B w w2 := hbw.grown hg2 hB1 (fun k hk => (Hb1.out.lt k hk).1)
       have hB2 : B ≤ w2.heap.size := Nat.le_trans hB1 hg2.size
       have Hb2 : Hid (Buf w2 B v1 (bs ++ r)) := hb2
       clear hg2 hB1 hbw Hb1 hb2)
    | (go_must (refine wpList_appS rfl (.tmp 9) _ rfl B _ (bs ++ r) ⟨#[0, 1]⟩ rfl Hb2.out rfl Hl3.out hB2 ?_; intro v2 w3 hb3 hg3)))
  have hbw3 : Below B w w3 := hbw2.grown hg3 hB2 (fun k hk => (Hb2.out.lt k hk).1)
  have Hb3 : Hid (Buf w3 B v2 (bs ++ (r ++ [0, 1]))) := by rw [← List.append_assoc]; exact hb3
  clear hg3 hb3
  go_wp2
  go_ret
  exact ⟨_, rfl, Hb3.out, hbw3⟩

/-- A value's bytes. -/
def enc1 (x : Val) : List UInt8 := UInt8.ofNat (x.k + 1).toNat :: (if x.k = 1 then bitsB x.n.toNat 1 else if x.k = 2 then bitsB (x.n + 9223372036854775808).toNat 8 else if x.k = 3 then sub1 0 [0, 255] x.s.data.toList ++ [0, 1] else [])

/-- What is known behind the first byte of a value. -/
theorem first_byte {B b : Nat} {v v1 : Value} {x : Val} {w w1 : World} {bs : List UInt8} (hB : B ≤ w.heap.size) (hb : Buf w B v bs) (hg : (w.alloc (.cells #[.int .i64 x.k, .int .i64 x.n, .string x.s] 32)).grownBy w1 v.ownBlock) (he : b = w.heap.size) (_ : v1 = v1) :
    Bx w1 b x ∧ Below B w w1 ∧ B ≤ w1.heap.size := by
  subst he
  have hB' : B ≤ (w.alloc (.cells #[.int .i64 x.k, .int .i64 x.n, .string x.s] 32)).heap.size := by simp; omega
  refine ⟨(hg.block w.heap.size (by simp) (fun e => by have := (hb.lt _ e.symm).2; omega)).trans (Bx.new w x), ((below_one w _).mono hB).grown hg hB' (fun k hk => (hb.lt k hk).1), Nat.le_trans hB' hg.size⟩

set_option maxHeartbeats 1000000 in
theorem appendValue_null (B : Nat) (v : Value) (bs : List UInt8) (w : World) (hB : B ≤ w.heap.size) (hb : Buf w B v bs) (hmax : bs.length ≤ 400000) :
    Calls Tryd.prog 22 #[v, .agg #[.int .i64 0, .int .i64 0, .string emp]] w (BufPost B w (bs ++ [1])) := by
  have Hb := Lib.hid hb
  clear hb
  go_enter Tryd.func22, Tryd.ntmps22
  go_wp2_with (at_builtin; go_must (
    refine wpList_appB rfl (.tmp 5) (.tmp 10) rfl B _ bs 1 rfl (Hb.out.alloc _) rfl _ rfl (by simp) (by omega) (by simp; omega) ?_
    intro v1 w1 hb1 hg1
    obtain ⟨bx, hbw, hB1⟩ := first_byte (x := ⟨0, 0, emp⟩) (v1 := v1) hB Hb.out hg1 rfl rfl
    have Hb1 := Lib.hid hb1
    have c0 : w1.cell? ⟨w.heap.size, 0, none⟩ = some (.int .i64 0) := bx.cell0
    clear hg1 hb1 bx))
  go_ret
  exact ⟨_, rfl, Hb1.out, hbw⟩

set_option maxHeartbeats 1000000 in
theorem appendValue_bool (B : Nat) (n : Int) (v : Value) (bs : List UInt8) (w : World) (hn : n = 0 ∨ n = 1) (hB : B ≤ w.heap.size) (hb : Buf w B v bs) (hmax : bs.length ≤ 400000) :
    Calls Tryd.prog 22 #[v, .agg #[.int .i64 1, .int .i64 n, .string emp]] w (BufPost B w (bs ++ (2 :: bitsB n.toNat 1))) := by
  have Hb := Lib.hid hb
  clear hb
  rcases hn with rfl | rfl
  all_goals
    go_enter Tryd.func22, Tryd.ntmps22
    go_wp2_with (at_builtin; go_must (
      refine wpList_appB rfl (.tmp 5) (.tmp 10) rfl B _ bs 2 rfl (Hb.out.alloc _) rfl _ rfl (by simp) (by omega) (by simp; omega) ?_
      intro v1 w1 hb1 hg1
      have hx := first_byte (x := ⟨1, _, emp⟩) (v1 := v1) hB Hb.out hg1 rfl rfl
      obtain ⟨bx, hbw, hB1⟩ := hx
      have Hb1 := Lib.hid hb1
      have c0 : w1.cell? ⟨w.heap.size, 0, none⟩ = some (.int .i64 1) := bx.cell0
      have c1 := bx.cell1
      clear hg1 hb1 bx))
  · refine (appendBits_c B 1 0 _ _ _ (by omega) (by omega) hB1 Hb1.out (by rw [List.length_append]; simp; omega)).mono ?_
    rintro e w2 ⟨v2, rfl, hb2, hbw2⟩
    have Hb2 := Lib.hid hb2
    have hbw3 := hbw.trans hbw2
    clear hb2 hbw2 hbw
    go_wp2
    go_ret
    exact ⟨_, rfl, by have := Hb2.out; rw [List.append_assoc] at this; exact this, hbw3⟩
  · refine (appendBits_c B 1 1 _ _ _ (by omega) (by omega) hB1 Hb1.out (by rw [List.length_append]; simp; omega)).mono ?_
    rintro e w2 ⟨v2, rfl, hb2, hbw2⟩
    have Hb2 := Lib.hid hb2
    have hbw3 := hbw.trans hbw2
    clear hb2 hbw2 hbw
    go_wp2
    go_ret
    exact ⟨_, rfl, by have := Hb2.out; rw [List.append_assoc] at this; exact this, hbw3⟩

set_option maxHeartbeats 1000000 in
theorem appendValue_text (B : Nat) (m : Int) (s : ByteArray) (v : Value) (bs : List UInt8) (w : World) (hs : s.size ≤ 1000) (hB : B ≤ w.heap.size) (hgB : 0 < B) (hm : w.cell? ⟨0, 0, none⟩ = some (.int .i64 m)) (hb : Buf w B v bs) (hmax : bs.length ≤ 400000) :
    Calls Tryd.prog 22 #[v, .agg #[.int .i64 3, .int .i64 0, .string s]] w (BufPost B w (bs ++ (4 :: (sub1 0 [0, 255] s.data.toList ++ [0, 1])))) := by
  have Hb := Lib.hid hb
  have Hm := Lib.hid hm
  clear hb hm
  go_enter Tryd.func22, Tryd.ntmps22
  go_wp2_with (at_builtin; go_must (
    refine wpList_appB rfl (.tmp 5) (.tmp 10) rfl B _ bs 4 rfl (Hb.out.alloc _) rfl _ rfl (by simp) (by omega) (by simp; omega) ?_
    intro v1 w1 hb1 hg1
    have hx := first_byte (x := ⟨3, 0, s⟩) (v1 := v1) hB Hb.out hg1 rfl rfl
    obtain ⟨bx, hbw, hB1⟩ := hx
    have Hb1 := Lib.hid hb1
    have c0 : w1.cell? ⟨w.heap.size, 0, none⟩ = some (.int .i64 3) := bx.cell0
    have c2 : w1.cell? ⟨w.heap.size, 2, none⟩ = some (.string s) := bx.cell2
    clear hg1 hb1 bx))
  refine (appendText_c B m _ s _ _ hs hB1 hgB ((hbw.cell (p := ⟨0, 0, none⟩) hgB).trans Hm.out) Hb1.out (by rw [List.length_append]; simp; omega)).mono ?_
  rintro e w2 ⟨v2, rfl, hb2, hbw2⟩
  have Hb2 := Lib.hid hb2
  have hbw3 := hbw.trans hbw2
  clear hb2 hbw2 hbw
  go_wp2
  go_ret
  exact ⟨_, rfl, by have := Hb2.out; rw [List.append_assoc] at this; exact this, hbw3⟩

theorem wrap_shift (n : Int) (h : -9223372036854775808 ≤ n ∧ n ≤ 9223372036854775807) : IntKind.u64.wrap (IntKind.u64.wrap n + 9223372036854775808) = ((n + 9223372036854775808).toNat : Int) := by
  have e : ∀ n, IntKind.u64.wrap n = n % 18446744073709551616 := fun n => by simp [IntKind.wrap, IntKind.signed, IntKind.bits]
  rw [e, e]
  omega

set_option maxHeartbeats 1000000 in
theorem appendValue_int (B : Nat) (n : Int) (v : Value) (bs : List UInt8) (w : World) (hn : -9223372036854775808 ≤ n ∧ n ≤ 9223372036854775807) (hB : B ≤ w.heap.size) (hb : Buf w B v bs) (hmax : bs.length ≤ 400000) :
    Calls Tryd.prog 22 #[v, .agg #[.int .i64 2, .int .i64 n, .string emp]] w (BufPost B w (bs ++ (3 :: bitsB (n + 9223372036854775808).toNat 8))) := by
  have Hb := Lib.hid hb
  have Hn := Lib.hid hn
  clear hb hn
  go_enter Tryd.func22, Tryd.ntmps22
  go_wp2_with (at_builtin; go_must (
    refine wpList_appB rfl (.tmp 5) (.tmp 10) rfl B _ bs 3 rfl (Hb.out.alloc _) rfl _ rfl (by simp) (by omega) (by simp; omega) ?_
    intro v1 w1 hb1 hg1
    have hx := first_byte (x := ⟨2, n, emp⟩) (v1 := v1) hB Hb.out hg1 rfl rfl
    obtain ⟨bx, hbw, hB1⟩ := hx
    have Hb1 := Lib.hid hb1
    have c0 : w1.cell? ⟨w.heap.size, 0, none⟩ = some (.int .i64 2) := bx.cell0
    have c1 : w1.cell? ⟨w.heap.size, 1, none⟩ = some (.int .i64 n) := bx.cell1
    clear hg1 hb1 bx))
  rw [wrap_shift n Hn.out]
  refine (appendBits_c B 8 (n + 9223372036854775808).toNat _ _ _ (by omega) (by have := Hn.out; omega) hB1 Hb1.out (by rw [List.length_append]; simp; omega)).mono ?_
  rintro e w2 ⟨v2, rfl, hb2, hbw2⟩
  have Hb2 := Lib.hid hb2
  have hbw3 := hbw.trans hbw2
  clear hb2 hbw2 hbw
  go_wp2
  go_ret
  exact ⟨_, rfl, by have := Hb2.out; rw [List.append_assoc] at this; exact this, hbw3⟩

theorem appendValue_c (B : Nat) (m : Int) (x : Val) (v : Value) (bs : List UInt8) (w : World) (hx : Valid x) (hn : -9223372036854775808 ≤ x.n ∧ x.n ≤ 9223372036854775807) (hB : B ≤ w.heap.size) (hgB : 0 < B) (hm : w.cell? ⟨0, 0, none⟩ = some (.int .i64 m)) (hb : Buf w B v bs) (hmax : bs.length ≤ 400000) :
    Calls Tryd.prog 22 #[v, x.v] w (BufPost B w (bs ++ enc1 x)) := by
  obtain ⟨k, n, s⟩ := x
  rcases hx with ⟨hk, h1, h2⟩ | ⟨hk, h1, h2⟩ | ⟨hk, h2⟩ | ⟨hk, h1, h2⟩
  · simp only at hk h1 h2
    subst hk h1 h2
    exact appendValue_null B v bs w hB hb hmax
  · simp only at hk h1 h2
    subst hk h2
    exact appendValue_bool B n v bs w h1 hB hb hmax
  · simp only at hk h2
    subst hk h2
    exact appendValue_int B n v bs w hn hB hb hmax
  · simp only at hk h1 h2
    subst hk h1
    exact appendValue_text B m s v bs w h2 hB hgB hm hb hmax

theorem enc1_length (x : Val) (hs : x.s.size ≤ 1000) : (enc1 x).length ≤ 4000 := by
  unfold enc1
  have h2 := sub1_length 0 [0, 255] x.s.data.toList
  have hsz : x.s.data.toList.length = x.s.size := rfl
  rw [hsz] at h2
  simp only [List.length_cons, List.length_nil] at h2
  split
  · rw [List.length_cons, bitsB_length]; omega
  · split
    · rw [List.length_cons, bitsB_length]; omega
    · split
      · rw [List.length_cons, List.length_append]; simp; omega
      · simp

/-- The bytes of a list of values. -/
def encL (xs : List Val) : List UInt8 := xs.flatMap enc1
/-- What Encode answers. -/
def encode (xs : List Val) : List UInt8 := if xs.all mayB then encL xs else []
theorem encL_length : ∀ xs : List Val, (∀ x ∈ xs, x.s.size ≤ 1000) → (encL xs).length ≤ xs.length * 4000
  | [], _ => by simp [encL]
  | x :: xs, h => by
    have h1 := enc1_length x (h x (by simp))
    have h2 := encL_length xs (fun y hy => h y (by simp [hy]))
    simp only [encL, List.flatMap_cons, List.length_append, List.length_cons] at h2 ⊢
    omega
theorem encL_append (xs ys : List Val) : encL (xs ++ ys) = encL xs ++ encL ys := by simp [encL]

/-- A value whose N is one of the program's. -/
def In64 (x : Val) : Prop := -9223372036854775808 ≤ x.n ∧ x.n ≤ 9223372036854775807
theorem wrap_back (n : Int) (h : -9223372036854775808 ≤ n ∧ n ≤ 9223372036854775807) : 0 ≤ n + 9223372036854775808 := by omega

def EncRel (B : Nat) (w : World) (xs : List Val) (k : Nat) (v : Value) (wr : World) : Prop :=
  B ≤ wr.heap.size ∧ Below B w wr ∧ Buf wr B v (encL (xs.take k)) ∧ (xs.take k).all mayB = true

set_option maxHeartbeats 2000000 in
theorem encode_g (A : Option Addr) (m : Int) (n c : Nat) (xs : List Val) (w : World) (hn : xs.length = n) (hn1 : n ≤ 1000000) (hE : (encL xs).length ≤ 400000) (hs : Sl w A xs) (hz : ∀ x ∈ xs, x.s.size ≤ 1000) (hi : ∀ x ∈ xs, In64 x) (hm : w.cell? ⟨0, 0, none⟩ = some (.int .i64 m)) :
    Calls Tryd.prog 12 #[.slice A n c] w fun e w' => e = .returned (.string ⟨(encode xs).toArray⟩) ∧ Below w.heap.size w w' := by
  have hg : 0 < w.heap.size := World.block_lt_of_cell? _ _ hm
  have Hn := Lib.hid hn
  have Hs := Lib.hid hs
  have Hz := Lib.hid hz
  have Hi := Lib.hid hi
  have Hm := Lib.hid hm
  have HE := Lib.hid hE
  clear hn hs hz hi hm hE
  go_enter Tryd.func12, Tryd.ntmps12
  go_wp2_with fail
  go_loopw [3, 8] (fun x i wr => ∃ k : Nat, k ≤ n ∧ i = .int .i64 k ∧ EncRel w.heap.size w xs k x wr) (fun _ i _ => n - (intOf i).toNat)
  case atStart => exact ⟨0, Nat.zero_le _, rfl, Nat.le_refl _, Below.refl _ _, by simpa [encL] using Buf.nil _ _, rfl⟩
  case round =>
    obtain ⟨k, hk, rfl, hBr, hb, hbuf, hall⟩ := hrel
    have Hbuf := Lib.hid hbuf
    have Hall := Lib.hid hall
    clear hbuf hall
    by_cases hlt : k < n
    · obtain ⟨b, off, x, rfl, hblt, hx, c0, c1, c2⟩ := Hs.out.at (by rw [Hn.out]; exact hlt)
      have d0 := (hb.cell (p := ⟨b, off + k * 3, none⟩) hblt).trans c0
      have d1 := (hb.cell (p := ⟨b, off + k * 3 + 1, none⟩) hblt).trans c1
      have d2 := (hb.cell (p := ⟨b, off + k * 3 + 2, none⟩) hblt).trans c2
      have Hxz := Lib.hid (Hz.out x (List.mem_of_getElem? hx))
      have Hxi := Lib.hid (Hi.out x (List.mem_of_getElem? hx))
      have Hx := Lib.hid hx
      have htake : xs.take (k + 1) = xs.take k ++ [x] := by
        rw [List.take_add_one, hx]; rfl
      have Htake := Lib.hid htake
      have hmx : mayB x = true ∨ mayB x = false := by cases mayB x <;> simp
      clear c0 c1 c2 hx htake
      have hlb : b < wr.heap.size := by omega
      have Hmx := Lib.hid hmx
      clear hmx
      go_wp2_with fail
      refine (may_c x _ (Nat.le_trans Hxz.out (by unfold maxLen; omega))).mono ?_
      rintro e w1 ⟨rfl, hb1⟩
      have bx : Bx w1 wr.heap.size x := (Bx.new wr x).after hb1
      have hbw1 : Below w.heap.size w w1 := (hb.alloc hBr _).trans (hb1.mono (by simp; omega))
      have Hb1 : Hid (Buf w1 w.heap.size _ (encL (xs.take k))) := (Hbuf.out.alloc _).after hb1
      have hB1 : w.heap.size ≤ w1.heap.size := hbw1.size
      clear hb1 hb hBr Hbuf d0 d1 d2
      have e0 := bx.cell0
      have e1 := bx.cell1
      have e2 := bx.cell2
      clear bx
      rcases Hmx.out with hmx | hmx
      · have Hv := Lib.hid (valid_of_may x hmx)
        have hl : (encL (xs.take k)).length ≤ 400000 := by
          have h1 : encL xs = encL (xs.take k) ++ encL (xs.drop k) := by rw [← encL_append, List.take_append_drop]
          have h2 := congrArg List.length h1
          rw [List.length_append] at h2
          have h3 := HE.out
          omega
        have Hl := Lib.hid hl
        clear hl
        go_wp2_with fail
        refine (appendValue_c w.heap.size m x _ _ w1 Hv.out Hxi.out hB1 hg ((hbw1.cell (p := ⟨0, 0, none⟩) hg).trans Hm.out) Hb1.out Hl.out).mono ?_
        rintro e w2 ⟨v2, rfl, hb2, hbw2⟩
        have hb3 := hbw1.trans hbw2
        have Hb2 := Lib.hid hb2
        have Hmx' := Lib.hid hmx
        clear hb2 hbw2 hbw1 e0 e1 e2 hmx
        go_wp2
        go_roundw
        case rel => exact ⟨k + 1, by omega, by go_num, hb3.size, hb3, by rw [Htake.out, encL_append]; simpa [encL] using Hb2.out, by rw [Htake.out, List.all_append, Hall.out]; simp [Hmx'.out]⟩
        case measure => simp [intOf]; omega
      · have Hfin : Hid (emp = ⟨(encode xs).toArray⟩) := by
          unfold encode
          have : xs.all mayB = false := List.all_eq_false.2 ⟨x, List.mem_of_getElem? Hx.out, by rw [hmx]; simp⟩
          rw [this]
          rfl
        go_wp2
        go_ret
        exact ⟨congrArg (fun z => Ending.returned (Value.string z)) Hfin.out, hbw1⟩
    · obtain rfl : k = n := by omega
      have Hfin : Hid (encL (xs.take k) = encode xs) := by
        have e : xs.take k = xs := List.take_of_length_le (by rw [Hn.out]; omega)
        have h := Hall.out
        rw [e] at h ⊢
        unfold encode
        rw [h]
        rfl
      have hconv := Hbuf.out.conv
      rw [Hfin.out] at hconv
      go_wp2
      go_ret
      exact ⟨rfl, hb⟩
theorem encode_c (A : Option Addr) (m : Int) (n c : Nat) (xs : List Val) (w : World) (hn : xs.length = n) (hn1 : n ≤ 90) (hs : Sl w A xs) (hz : ∀ x ∈ xs, x.s.size ≤ 1000) (hi : ∀ x ∈ xs, In64 x) (hm : w.cell? ⟨0, 0, none⟩ = some (.int .i64 m)) :
    Calls Tryd.prog 12 #[.slice A n c] w fun e w' => e = .returned (.string ⟨(encode xs).toArray⟩) ∧ Below w.heap.size w w' :=
  encode_g A m n c xs w hn (by omega) (by have := encL_length xs hz; rw [hn] at this; omega) hs hz hi hm
end Go.Proofs.YtkbgcgkblbbcbaaDoor
