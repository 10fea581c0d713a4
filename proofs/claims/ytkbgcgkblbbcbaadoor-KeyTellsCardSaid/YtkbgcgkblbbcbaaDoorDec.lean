/-
  Bytes as a list of values: what the program's Decode answers, of any text that is not too long.
-/
import Derived.Test.YtkbgcgkblbbcbaaDoorEnc
import Derived.Laws.Bits64b
import Derived.Lib.Strings
import Derived.WalkMore
import Derived.IntWalk
namespace Go.Proofs.YtkbgcgkblbbcbaaDoor
open Go Go.RowKit

/-- The number that bytes are, the highest first. -/
def numB (l : List UInt8) : Nat := l.foldl (fun a b => a * 256 + b.toNat) 0
theorem numB_snoc (l : List UInt8) (b : UInt8) : numB (l ++ [b]) = numB l * 256 + b.toNat := by simp [numB]
theorem numB_lt (l : List UInt8) : numB l < 256 ^ l.length := by
  have key : ∀ (l : List UInt8) (a n : Nat), a < 256 ^ n → l.foldl (fun a b => a * 256 + b.toNat) a < 256 ^ (n + l.length) := by
    intro l
    induction l with
    | nil => intro a n h; exact h
    | cons b l ih =>
      intro a n h
      have hb := b.toNat_lt
      have := ih (a * 256 + b.toNat) (n + 1) (by rw [Nat.pow_succ]; omega)
      rw [List.foldl_cons, List.length_cons]
      rwa [Nat.add_assoc, Nat.add_comm 1] at this
  have := key l 0 0 (by simp)
  rwa [Nat.zero_add] at this
theorem or_byte (u b : Nat) (hu : u < 72057594037927936) (hb : b < 256) : bits .or .u64 (IntKind.u64.wrap ((u : Int) * 256)) (IntKind.u64.wrap (b : Int)) = ((u * 256 + b : Nat) : Int) := by
  have e1 : IntKind.u64.wrap ((u : Int) * 256) = ((u * 256 : Nat) : Int) := by rw [IntKind.wrap_u64]; omega
  have e2 : IntKind.u64.wrap (b : Int) = ((b : Nat) : Int) := by rw [IntKind.wrap_u64]; omega
  rw [e1, e2, bits_or_u64_nat _ _ (by omega) (by omega)]
  have := Nat.shiftLeft_add_eq_or_of_lt (a := u) (i := 8) (b := b) (by omega)
  rw [Nat.shiftLeft_eq] at this
  rw [← this]
theorem extract_drop (s : ByteArray) (k : Nat) : s.extract k s.size = ⟨(s.data.toList.drop k).toArray⟩ := by
  have h : (s.data.toList.drop k).length ≤ s.size - k := by rw [List.length_drop]; exact Nat.le_refl _
  rw [Lib.extract_eq, List.take_of_length_le h]
theorem ev_sliceFrom {F : Act} {w : World} {t : Tmp} {x : Operand} {k : Nat} {s : ByteArray} {o : Oper} (ho : o.op = .slice 9 (.tmp t) (some x) none none) (ht : Reg.slot F t = .string s) (hu : F.eval x = .int .i64 k) (hk : k ≤ s.size) :
    (execOp F.eval o).run Tryd.prog w = .ok (.value (.string ⟨(s.data.toList.drop k).toArray⟩)) w := by
  have e1 : F.eval (.tmp t) = .string s := ht
  have e0 : (execOp F.eval o).run Tryd.prog w = ((Instr.sliceAt 9 (.string s) (some (.int .i64 k)) none none).run Tryd.prog w).andThen fun v w' => .ok (.value v) w' := by
    simp only [execOp, ho, e1, hu, Option.map_some, Option.map_none, Sem.run_bind, Sem.run_pure]
  rw [e0, ← extract_drop]
  go_simp
theorem take_snoc (s : ByteArray) (k : Nat) (h : k < s.size) : s.data.toList.take (k + 1) = s.data.toList.take k ++ [s[k]] := by
  have h' : k < s.data.toList.length := h
  rw [List.take_add_one, List.getElem?_eq_getElem h']
  rfl

set_option maxHeartbeats 2000000 in
theorem cutBits_short (s : ByteArray) (n : Nat) (w : World) (_hn : n ≤ 8) (hs : s.size < n) :
    Calls Tryd.prog 27 #[.string s, .int .i64 n] w fun e w' => e = .returned (.tuple #[.int .u64 0, .string emp, .bool false]) ∧ Below w.heap.size w w' := by
  have h1 : decide ((s.size : Int) < (n : Int)) = true := decide_eq_true (by omega)
  go_enter Tryd.func27, Tryd.ntmps27
  go_wp2
  go_ret3
  exact ⟨rfl, Below.refl _ _⟩

set_option maxHeartbeats 2000000 in
theorem cutBits_long (s : ByteArray) (n : Nat) (w : World) (hn : n ≤ 8) (hs : n ≤ s.size) (hmax : s.size ≤ 1000000) :
    Calls Tryd.prog 27 #[.string s, .int .i64 n] w fun e w' => e = .returned (.tuple #[.int .u64 (numB (s.data.toList.take n)), .string ⟨(s.data.toList.drop n).toArray⟩, .bool true]) ∧ Below w.heap.size w w' := by
  have h1 : decide ((s.size : Int) < (n : Int)) = false := decide_eq_false (by omega)
  go_enter Tryd.func27, Tryd.ntmps27
  go_wp2_with fail
  go_loop [4, 13] (fun x i => ∃ k : Nat, k ≤ n ∧ i = .int .i64 k ∧ x = .int .u64 (numB (s.data.toList.take k))) (fun _ i => n - (intOf i).toNat)
  case atStart => exact ⟨0, Nat.zero_le _, rfl, rfl⟩
  case round =>
    obtain ⟨k, hk, rfl, rfl⟩ := hrel
    by_cases hlt : k < n
    · have hks : k < s.size := by omega
      have hu : numB (s.data.toList.take k) < 72057594037927936 := by
        have h1 := numB_lt (s.data.toList.take k)
        have h2 : 256 ^ (s.data.toList.take k).length ≤ 256 ^ 7 := Nat.pow_le_pow_right (by omega) (by rw [List.length_take]; omega)
        omega
      have hs' := or_byte (numB (s.data.toList.take k)) s[k].toNat hu s[k].toNat_lt
      rw [← numB_snoc, ← take_snoc s k hks] at hs'
      have Hs' := Lib.hid hs'
      clear hs' hu
      go_wp2
      go_round
      case rel => exact ⟨k + 1, by omega, by go_num, congrArg (Value.int .u64) Hs'.out⟩
      case measure => simp [intOf]; omega
    · obtain rfl : k = n := by omega
      go_wp2_with fail
      refine Reg.wp_region_late mixed (by kernel_rfl) [(24, .int .u64 (numB (s.data.toList.take k))), (25, .string s), (26, .int .i64 k), (27, .string ⟨(s.data.toList.drop k).toArray⟩), (5, .string ⟨(s.data.toList.drop k).toArray⟩), (6, .bool true)] [(4, .int .u64 (numB (s.data.toList.take k)))] (fun i => i == 0) 28 rfl (by kernel_rfl) ?_ ?_
      · intro E F hE hF w' hB
        refine ⟨?_, ?_, ?_, ?_, ?_, ?_, ?_, trivial⟩
        · exact Reg.doesV_val (ev_move rfl) (by rw [hE]; kernel_rfl) (by rw [hE, hF]; kernel_rfl)
        · exact Reg.doesV_val (ev_move rfl) (by rw [hF]; kernel_rfl) (by rw [hF]; kernel_rfl)
        · exact Reg.doesV_val (ev_move rfl) (by rw [hF]; kernel_rfl) (by rw [hF]; kernel_rfl)
        · exact Reg.doesV_val (ev_sliceFrom (k := k) (s := s) rfl (by rw [hF]; kernel_rfl) (by rw [hF]; kernel_rfl) hs) (by rw [hF]; kernel_rfl) (by rw [hF]; kernel_rfl)
        · exact Reg.doesV_val (ev_assign rfl) (by rw [hF]; kernel_rfl) (by rw [hF]; kernel_rfl)
        · exact Reg.doesV_val (ev_assign rfl) (by rw [hF]; kernel_rfl) (by rw [hF]; kernel_rfl)
        · exact Reg.doesV_val (ev_assign rfl) (by rw [hF]; kernel_rfl) (by rw [hF]; kernel_rfl)
      · intro w3 hB
        simp only [List.cons_append, List.nil_append, Reg.putAll, Act.put, List.setIfInBounds_toArray, List.set_cons_zero, List.set_cons_succ]
        go_wp2
        go_ret3
        exact ⟨rfl, hB⟩

/-- The text that is encoded at the beginning of some bytes, and what is behind it. -/
def cutT : List UInt8 → Option (List UInt8 × List UInt8)
  | [] => none
  | [_] => none
  | b :: c :: r => if b != 0 then (cutT (c :: r)).map (fun p => (b :: p.1, p.2)) else if c == 255 then (cutT r).map (fun p => (0 :: p.1, p.2)) else if c == 1 then some ([], r) else none
theorem cutT_byte (b : UInt8) (r : List UInt8) (h : (b != 0) = true) : cutT (b :: r) = (cutT r).map (fun p => (b :: p.1, p.2)) := by
  cases r with
  | nil => rfl
  | cons c r => rw [cutT, h]; rfl
theorem cutT_zero (l : List UInt8) (h : Lib.hasPrefix l [0, 255] = true) : cutT l = (cutT (l.drop 2)).map (fun p => (0 :: p.1, p.2)) := by
  match l, h with
  | [], h => simp [Lib.hasPrefix] at h
  | [_], h => simp [Lib.hasPrefix] at h
  | b :: c :: r, h =>
    simp [Lib.hasPrefix] at h
    obtain ⟨rfl, rfl⟩ := h
    rfl
theorem cutT_end (l : List UInt8) (h : Lib.hasPrefix l [0, 1] = true) : cutT l = some ([], l.drop 2) := by
  match l, h with
  | [], h => simp [Lib.hasPrefix] at h
  | [_], h => simp [Lib.hasPrefix] at h
  | b :: c :: r, h =>
    simp [Lib.hasPrefix] at h
    obtain ⟨rfl, rfl⟩ := h
    rfl
theorem cutT_none (l : List UInt8) (h0 : ∀ b r, l = b :: r → b = 0) (h1 : Lib.hasPrefix l [0, 255] = false) (h2 : Lib.hasPrefix l [0, 1] = false) : cutT l = none := by
  match l, h0, h1, h2 with
  | [], _, _, _ => rfl
  | [_], _, _, _ => rfl
  | b :: c :: r, h0, h1, h2 =>
    obtain rfl := h0 b _ rfl
    simp [Lib.hasPrefix] at h1 h2
    rw [cutT]
    have e1 : (c == 255) = false := by
      cases hc : c == 255
      · rfl
      · simp at hc; subst hc; simp at h1
    have e2 : (c == 1) = false := by
      cases hc : c == 1
      · rfl
      · simp at hc; subst hc; simp at h2
    rw [e1, e2]
    rfl
theorem prefix_len {l : List UInt8} {a b : UInt8} (h : Lib.hasPrefix l [a, b] = true) : 2 ≤ l.length := by
  match l, h with
  | [], h => simp [Lib.hasPrefix] at h
  | [_], h => simp [Lib.hasPrefix] at h
  | _ :: _ :: _, _ => simp

def pre (o : List UInt8) (x : Option (List UInt8 × List UInt8)) : Option (List UInt8 × List UInt8) := x.map fun p => (o ++ p.1, p.2)
theorem pre_step (o : List UInt8) (b : UInt8) (x : Option (List UInt8 × List UInt8)) : pre o (x.map (fun p => (b :: p.1, p.2))) = pre (o ++ [b]) x := by
  cases x <;> simp [pre]
def TextRel (s : ByteArray) (w : World) (k : Nat) (v : Value) (wr : World) : Prop :=
  k ≤ s.size ∧ Below w.heap.size w wr ∧ ∃ o, o.length ≤ k ∧ Buf wr w.heap.size v o ∧ cutT s.data.toList = pre o (cutT (s.data.toList.drop k))
/-- What cutText answers. -/
def CutTPost (l : List UInt8) (w : World) (e : Ending) (w' : World) : Prop :=
  Below w.heap.size w w' ∧ ((cutT l = none ∧ e = .returned (.tuple #[.string emp, .string emp, .bool false])) ∨ ∃ t r, cutT l = some (t, r) ∧ t.length ≤ l.length ∧ e = .returned (.tuple #[.string ⟨t.toArray⟩, .string ⟨r.toArray⟩, .bool true]))

theorem ev_conv {F : Act} {w : World} {t : Tmp} {v : Value} {bs : List UInt8} {o : Oper} {B : Nat} (hb : Buf w B v bs) (ho : o.op = .convert 41 9 (.tmp t)) (ht : Reg.slot F t = v) :
    (execOp F.eval o).run Tryd.prog w = .ok (.value (.string ⟨bs.toArray⟩)) w := by
  have e1 : F.eval (.tmp t) = v := ht
  simp only [execOp, ho, e1, Sem.run_bind, hb.conv, Result.andThen_ok, Sem.run_pure]
theorem ev_addc {F : Act} {w : World} {t : Tmp} {k c : Nat} {o : Oper} (ho : o.op = .binOp .add 3 (.tmp t) (.const (.int .i64 c)) 3) (ht : Reg.slot F t = .int .i64 k) (hk : k + c ≤ 1000000000) :
    (execOp F.eval o).run Tryd.prog w = .ok (.value (.int .i64 ((k + c : Nat) : Int))) w := by
  have e1 : F.eval (.tmp t) = .int .i64 k := ht
  have e2 : F.eval (.const (.int .i64 c)) = .int .i64 c := rfl
  have hw : IntKind.i64.wrap ((k : Int) + (c : Int)) = ((k + c : Nat) : Int) := by rw [IntWalk.i64_in _ (by omega)]; rfl
  simp only [execOp, ho, e1, e2]
  go_simp

set_option maxHeartbeats 4000000 in
theorem cutText_c (s : ByteArray) (w : World) (hs : s.size ≤ 500000) : Calls Tryd.prog 28 #[.string s] w (CutTPost s.data.toList w) := by
  go_enter Tryd.func28, Tryd.ntmps28
  go_wp2
  go_step3
  go_wp2
  go_step3
  go_wp2_with fail
  go_loopw [5, 6] (fun x i wr => ∃ k : Nat, i = .int .i64 k ∧ TextRel s w k x wr) (fun _ i _ => s.size - (intOf i).toNat)
  case atStart => exact ⟨0, rfl, Nat.zero_le _, Below.refl _ _, [], Nat.le_refl _, Buf.nil _ _, by simp [pre]⟩
  case round =>
    obtain ⟨k, rfl, hk, hb, o, hol, hbuf, hcut⟩ := hrel
    have Hbuf := Lib.hid hbuf
    have Hcut := Lib.hid hcut
    clear hbuf hcut
    have hB := hb.size
    by_cases hlt : k < s.size
    · have hd : s.data.toList.drop k = s[k] :: s.data.toList.drop (k + 1) := List.drop_eq_getElem_cons hlt
      cases h0 : ((s[k].toNat : Int) != 0)
      · have Hz : Hid (∀ b r, s.data.toList.drop k = b :: r → b = 0) := by
          intro b r h
          rw [hd] at h
          have : s[k] = b := (List.cons.inj h).1
          rw [← this]
          have h3 : s[k].toNat = 0 := by simpa using h0
          exact UInt8.toNat_inj.1 h3
        obtain ⟨p1, hp1⟩ : ∃ p1, Lib.hasPrefix (s.data.toList.drop k) [0, 255] = p1 := ⟨_, rfl⟩
        obtain ⟨p2, hp2⟩ : ∃ p2, Lib.hasPrefix (s.data.toList.drop k) [0, 1] = p2 := ⟨_, rfl⟩
        have q1 : Hid (Lib.hasPrefix (s.extract k s.size).data.toList (⟨#[0, 255]⟩ : ByteArray).data.toList = p1) := by rw [extract_drop]; exact hp1
        have q2 : Hid (Lib.hasPrefix (s.extract k s.size).data.toList (⟨#[0, 1]⟩ : ByteArray).data.toList = p2) := by rw [extract_drop]; exact hp2
        have Hp1 := Lib.hid hp1
        have Hp2 := Lib.hid hp2
        clear hp1 hp2
        go_wp2_with fail
        refine (Tryd.strings_HasPrefix _ _ _).mono ?_
        rintro e w0 ⟨rfl, rfl⟩
        rw [q1.out]
        cases p1
        · go_wp2_with fail
          refine (Tryd.strings_HasPrefix _ _ _).mono ?_
          rintro e w0' ⟨rfl, rfl⟩
          rw [q2.out]
          cases p2
          · have Hst : Hid (cutT s.data.toList = none) := by
              have := Hcut.out
              rw [cutT_none _ Hz.out Hp1.out Hp2.out] at this
              exact this
            go_wp2
            try rw [Exit.noGoto_ret]
            go_ret3
            exact ⟨hb, .inl ⟨Hst.out, rfl⟩⟩
          · have Hst : Hid (cutT s.data.toList = some (o, s.data.toList.drop (k + 2))) := by
              have := Hcut.out
              rw [cutT_end _ Hp2.out, List.drop_drop] at this
              rw [this, pre, Option.map_some, List.append_nil]
              exact rfl
            have hlen2 : k + 2 ≤ s.size := by
              have := prefix_len Hp2.out
              have e : s.data.toList.length = s.size := rfl
              rw [List.length_drop, e] at this
              omega
            have hol2 : o.length ≤ s.data.toList.length := by have e : s.data.toList.length = s.size := rfl; omega
            have Hol2 := Lib.hid hol2
            clear hol2
            go_wp2_with fail
            refine Reg.wp_region_vals mixed (by kernel_rfl) [(41, u5), (42, .string ⟨o.toArray⟩), (43, .string s), (44, .int .i64 k), (45, .int .i64 ((k + 2 : Nat) : Int)), (46, .string ⟨(s.data.toList.drop (k + 2)).toArray⟩), (2, .string ⟨o.toArray⟩), (3, .string ⟨(s.data.toList.drop (k + 2)).toArray⟩), (4, .bool true)] 47 rfl (by kernel_rfl) ?_ ?_
            · intro F hF w' hB'
              have hbf := Hbuf.out.after hB'
              refine ⟨?_, ?_, ?_, ?_, ?_, ?_, ?_, ?_, ?_, trivial⟩
              · exact Reg.doesV_val (ev_move rfl) (by rw [hF]; kernel_rfl) (by rw [hF]; kernel_rfl)
              · exact Reg.doesV_val (ev_conv hbf rfl (by rw [hF]; kernel_rfl)) (by rw [hF]; kernel_rfl) (by rw [hF]; kernel_rfl)
              · exact Reg.doesV_val (ev_move rfl) (by rw [hF]; kernel_rfl) (by rw [hF]; kernel_rfl)
              · exact Reg.doesV_val (ev_move rfl) (by rw [hF]; kernel_rfl) (by rw [hF]; kernel_rfl)
              · exact Reg.doesV_val (ev_addc (k := k) (c := 2) rfl (by rw [hF]; kernel_rfl) (by omega)) (by rw [hF]; kernel_rfl) (by rw [hF]; kernel_rfl)
              · exact Reg.doesV_val (ev_sliceFrom (k := k + 2) (s := s) rfl (by rw [hF]; kernel_rfl) (by rw [hF]; kernel_rfl) hlen2) (by rw [hF]; kernel_rfl) (by rw [hF]; kernel_rfl)
              · exact Reg.doesV_val (ev_assign rfl) (by rw [hF]; kernel_rfl) (by rw [hF]; kernel_rfl)
              · exact Reg.doesV_val (ev_assign rfl) (by rw [hF]; kernel_rfl) (by rw [hF]; kernel_rfl)
              · exact Reg.doesV_val (ev_assign rfl) (by rw [hF]; kernel_rfl) (by rw [hF]; kernel_rfl)
            · intro w3 hB'
              have hb3 := hb.trans (hB'.mono hB)
              clear hB'
              simp only [Reg.putAll, Act.put, List.setIfInBounds_toArray, List.set_cons_zero, List.set_cons_succ]
              go_wp2
              try rw [Exit.noGoto_ret]
              go_ret3
              exact ⟨hb3, .inr ⟨o, _, Hst.out, Hol2.out, rfl⟩⟩
        · have Hst : Hid (cutT s.data.toList = pre (o ++ [0]) (cutT (s.data.toList.drop (k + 2)))) := by
            have := Hcut.out
            rw [cutT_zero _ Hp1.out, List.drop_drop, pre_step] at this
            exact this
          have hlen2 : k + 2 ≤ s.size := by
            have := prefix_len Hp1.out
            have e : s.data.toList.length = s.size := rfl
            rw [List.length_drop, e] at this
            omega
          have Hol := Lib.hid (show o.length ≤ 1000000 by omega)
          go_wp2_with (at_builtin; go_must (refine wpList_appB rfl (.tmp 31) (.tmp 32) rfl w.heap.size _ o 0 rfl Hbuf.out rfl _ rfl rfl Hol.out hB ?_; intro v1 w1 hb1 hg1))
          have hb2 : Below w.heap.size w w1 := hb.grown hg1 hB (fun q hq => (Hbuf.out.lt q hq).1)
          have Hb1 := Lib.hid hb1
          clear hb1 hg1
          go_wp2
          go_roundw
          case rel => exact ⟨k + 2, by go_num, by omega, hb2, o ++ [0], by rw [List.length_append]; simp; omega, Hb1.out, Hst.out⟩
          case measure => simp [intOf]; omega
      · have hne : (s[k] != 0) = true := by
          have : s[k].toNat ≠ 0 := by simpa using h0
          simp only [bne_iff_ne, ne_eq]
          intro h
          rw [h] at this
          exact this rfl
        have hst := Hcut.out
        rw [hd, cutT_byte _ _ hne, pre_step] at hst
        have Hst := Lib.hid hst
        clear hst Hcut hne hd
        have Hol := Lib.hid (show o.length ≤ 1000000 by omega)
        go_wp2_with (at_builtin; go_must (refine wpList_appB rfl (.tmp 18) (.tmp 22) rfl w.heap.size _ o s[k] rfl Hbuf.out rfl _ rfl rfl Hol.out hB ?_; intro v1 w1 hb1 hg1))
        have hb2 : Below w.heap.size w w1 := hb.grown hg1 hB (fun q hq => (Hbuf.out.lt q hq).1)
        have Hb1 := Lib.hid hb1
        clear hb1 hg1
        go_wp2
        go_roundw
        case rel => exact ⟨k + 1, by go_num, by omega, hb2, o ++ [s[k]], by rw [List.length_append]; simp; omega, Hb1.out, Hst.out⟩
        case measure => simp [intOf]; omega
    · have Hz : Hid (∀ b r, s.data.toList.drop k = b :: r → b = 0) := by
        intro b r h
        rw [List.drop_eq_nil_of_le (by have e : s.data.toList.length = s.size := rfl; rw [e]; omega)] at h
        cases h
      obtain ⟨p1, hp1⟩ : ∃ p1, Lib.hasPrefix (s.data.toList.drop k) [0, 255] = p1 := ⟨_, rfl⟩
      obtain ⟨p2, hp2⟩ : ∃ p2, Lib.hasPrefix (s.data.toList.drop k) [0, 1] = p2 := ⟨_, rfl⟩
      have q1 : Hid (Lib.hasPrefix (s.extract k s.size).data.toList (⟨#[0, 255]⟩ : ByteArray).data.toList = p1) := by rw [extract_drop]; exact hp1
      have q2 : Hid (Lib.hasPrefix (s.extract k s.size).data.toList (⟨#[0, 1]⟩ : ByteArray).data.toList = p2) := by rw [extract_drop]; exact hp2
      have Hp1 := Lib.hid hp1
      have Hp2 := Lib.hid hp2
      clear hp1 hp2
      go_wp2_with fail
      refine (Tryd.strings_HasPrefix _ _ _).mono ?_
      rintro e w0 ⟨rfl, rfl⟩
      rw [q1.out]
      cases p1
      · go_wp2_with fail
        refine (Tryd.strings_HasPrefix _ _ _).mono ?_
        rintro e w0' ⟨rfl, rfl⟩
        rw [q2.out]
        cases p2
        · have Hst : Hid (cutT s.data.toList = none) := by
            have := Hcut.out
            rw [cutT_none _ Hz.out Hp1.out Hp2.out] at this
            exact this
          go_wp2
          try rw [Exit.noGoto_ret]
          go_ret3
          exact ⟨hb, .inl ⟨Hst.out, rfl⟩⟩
        · exfalso
          have := prefix_len Hp2.out
          have e : s.data.toList.length = s.size := rfl
          rw [List.length_drop, e] at this
          omega
      · exfalso
        have := prefix_len Hp1.out
        have e : s.data.toList.length = s.size := rfl
        rw [List.length_drop, e] at this
        omega
end Go.Proofs.YtkbgcgkblbbcbaaDoor
