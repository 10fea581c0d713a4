/-
  And and Or, of any list of values, as the program and as the document has them.
-/
import Derived.Test.YticofedglhfdpaaGreatDoorNotP
namespace Go.Proofs.YticofedglhfdpaaGreatDoor
open Go Go.RowKit
attribute [local go_sem ↓] run_eqV run_neV

/-- What decide comes to, from the answer so far. -/
def dec (strong weak : Val) : Val → List Val → Val
  | ans, [] => ans
  | ans, v :: r => if v.eq strong then strong else dec strong weak (if v.eq weak then ans else nl) r

theorem dec_drop (strong weak ans : Val) (vs : List Val) (k : Nat) (v : Val) (h : vs[k]? = some v) :
    dec strong weak ans (vs.drop k) = if v.eq strong then strong else dec strong weak (if v.eq weak then ans else nl) (vs.drop (k + 1)) := by
  have hlt : k < vs.length := (List.getElem?_eq_some_iff.1 h).1
  have hv : vs[k] = v := (List.getElem?_eq_some_iff.1 h).2
  rw [List.drop_eq_getElem_cons hlt, hv, dec]

set_option maxHeartbeats 2000000 in
theorem decide_some (strong : Val) (b off n c : Nat) (vs : List Val) (w : World) (hn : vs.length = n) (hmax : n ≤ maxLen) (hlt : b < w.heap.size)
    (hs : ∀ i (a : Val), vs[i]? = some a → w.cell? ⟨b, off + i * 3, none⟩ = some (.int .i64 a.k) ∧ w.cell? ⟨b, off + i * 3 + 1, none⟩ = some (.int .i64 a.n) ∧ w.cell? ⟨b, off + i * 3 + 2, none⟩ = some (.string a.s)) :
    Calls Tryz.prog 80 #[strong.v, .slice (some ⟨b, off, none⟩) n c] w fun e w' => e = .returned (dec strong (nt strong) (nt strong) vs).v ∧ Below w.heap.size w w' := by
  unfold maxLen at hmax
  have Hn := Lib.hid hn
  have Hs := Lib.hid hs
  clear hn hs
  obtain ⟨weak, hweak⟩ : ∃ weak, nt strong = weak := ⟨_, rfl⟩
  have Hw := Lib.hid hweak
  rw [hweak]
  clear hweak
  go_enter Tryz.func80, Tryz.ntmps80
  go_wp2_with fail
  refine (not_c strong _).mono ?_
  rintro e w1 ⟨rfl, hb1⟩
  rw [Hw.out]
  have s1' : Bx w1 w.heap.size strong := ((Bx.new w strong).alloc _).after hb1
  have r1 : Bx w1 (w.heap.size + 1) nl := (Bx.new1 w nl _).below hb1 (by simp)
  have hb : Below w.heap.size w w1 := ((below_one _ _).alloc (by simp) _).trans (hb1.mono (by simp; omega))
  clear hb1
  go_wp2_with fail
  go_loopw [14] (fun i wr => ∃ (k : Nat) (ans : Val), k ≤ n ∧ i = .int .i64 k ∧ Bx wr w.heap.size strong ∧ Bx wr (w.heap.size + 1) nl ∧ Bx wr w1.heap.size weak ∧ Bx wr (w1.heap.size + 1) ans ∧ Below w.heap.size w wr ∧ w1.heap.size + 2 ≤ wr.heap.size ∧ Hid (dec strong weak ans (vs.drop k) = dec strong weak weak vs))
    (fun i _ => n - (intOf i).toNat)
  case atStart =>
    refine ⟨0, weak, Nat.zero_le _, rfl, (s1'.alloc _).alloc _, (r1.alloc _).alloc _, (Bx.new w1 weak).alloc _, Bx.new1 w1 weak _, (hb.alloc hb.size _).alloc (by simp; have := hb.size; omega) _, by simp, rfl⟩
  case round =>
    obtain ⟨k, ans, hk, rfl, bs, br, bw, ba, hbr, hsz, hinv⟩ := hrel
    by_cases hlt' : k < n
    · obtain ⟨v, hv⟩ : ∃ v, vs[k]? = some v := ⟨vs[k]'(by rw [Hn.out]; exact hlt'), List.getElem?_eq_getElem _⟩
      obtain ⟨c0, c1, c2⟩ := Hs.out k v hv
      have d0 := (hbr.cell (p := ⟨b, off + k * 3, none⟩) hlt).trans c0
      have d1 := (hbr.cell (p := ⟨b, off + k * 3 + 1, none⟩) hlt).trans c1
      have d2 := (hbr.cell (p := ⟨b, off + k * 3 + 2, none⟩) hlt).trans c2
      have Hv := Lib.hid hv
      clear c0 c1 c2 hv
      have s0 := bs.cell0
      have s1 := bs.cell1
      have s2 := bs.cell2
      have l0 := bs.lt
      have l1 := br.lt
      have l2 := bw.lt
      have l3 := ba.lt
      have k0 := bw.cell0
      have k1 := bw.cell1
      have k2 := bw.cell2
      cases he : Val.eq ⟨v.k, v.n, v.s⟩ ⟨strong.k, strong.n, strong.s⟩
      · have a0 := ba.cell0
        have a1 := ba.cell1
        have a2 := ba.cell2
        have f0 := ba.frozen 0
        have f1 := ba.frozen 1
        have f2 := ba.frozen 2
        have hstep := dec_drop strong weak ans vs k v Hv.out
        rw [show v.eq strong = false from he] at hstep
        cases hw : Val.eq ⟨v.k, v.n, v.s⟩ ⟨weak.k, weak.n, weak.s⟩
        · rw [show v.eq weak = false from hw] at hstep
          have Hst := Lib.hid hstep
          clear hstep
          go_wp2
          go_roundw
          case rel =>
            rw [put3_fold]
            have q1 : w.heap.size ≠ w1.heap.size + 1 := by have := s1'.lt; omega
            have q2 : w.heap.size + 1 ≠ w1.heap.size + 1 := by have := r1.lt; omega
            have q3 : w.heap.size ≤ (put3 wr (w1.heap.size + 1) nl).heap.size := by rw [put3_size]; exact hbr.size
            have q4 : w.heap.size ≤ w1.heap.size + 1 := by have := hb.size; omega
            exact ⟨k + 1, nl, by omega, by go_num, (put3_other bs q1).alloc _, (put3_other br q2).alloc _, (put3_other bw (by omega)).alloc _, (ba.put nl).alloc _, (put3_below hbr q4 nl).alloc q3 _, by simp [put3_size]; omega, Hst.out.symm.trans hinv.out⟩
          case measure => simp [intOf]; omega
        · rw [show v.eq weak = true from hw] at hstep
          have Hst := Lib.hid hstep
          clear hstep
          go_wp2
          go_roundw
          case rel =>
            exact ⟨k + 1, ans, by omega, by go_num, bs.alloc _, br.alloc _, bw.alloc _, ba.alloc _, hbr.alloc hbr.size _, by simp; omega, Hst.out.symm.trans hinv.out⟩
          case measure => simp [intOf]; omega
      · have hstep := dec_drop strong weak ans vs k v Hv.out
        rw [show v.eq strong = true from he, if_pos rfl] at hstep
        have Hst := Lib.hid (hstep.symm.trans hinv.out)
        clear hstep
        have a0 := br.cell0
        have a1 := br.cell1
        have a2 := br.cell2
        have f0 := br.frozen 0
        have f1 := br.frozen 1
        have f2 := br.frozen 2
        go_wp2
        rw [← Hst.out, put3_fold]
        have q3 : w.heap.size ≤ (put3 wr (w.heap.size + 1) strong).heap.size := by rw [put3_size]; exact hbr.size
        exact ret_val (a := strong) Tryz.results80 rfl ((br.put strong).alloc _) rfl ⟨rfl, (put3_below hbr (by omega) strong).alloc q3 _⟩
    · have hkn : k = n := by omega
      have hstep := hinv.out
      rw [List.drop_eq_nil_of_le (by rw [Hn.out]; omega)] at hstep
      have Hst := Lib.hid hstep
      clear hstep hkn
      have a0 := ba.cell0
      have a1 := ba.cell1
      have a2 := ba.cell2
      have r0 := br.cell0
      have r2 := br.cell1
      have r3 := br.cell2
      have f0 := br.frozen 0
      have f1 := br.frozen 1
      have f2 := br.frozen 2
      go_wp2
      rw [← Hst.out, put3_fold]
      exact ret_val (a := ans) Tryz.results80 rfl (br.put ans) rfl ⟨rfl, put3_below hbr (by omega) ans⟩

set_option maxHeartbeats 400000 in
theorem decide_nil (strong : Val) (A : Option Addr) (c : Nat) (w : World) :
    Calls Tryz.prog 80 #[strong.v, .slice A 0 c] w fun e w' => e = .returned (nt strong).v ∧ Below w.heap.size w w' := by
  obtain ⟨weak, hweak⟩ : ∃ weak, nt strong = weak := ⟨_, rfl⟩
  have Hw := Lib.hid hweak
  rw [hweak]
  clear hweak
  go_enter Tryz.func80, Tryz.ntmps80
  go_wp2_with fail
  refine (not_c strong _).mono ?_
  rintro e w1 ⟨rfl, hb1⟩
  rw [Hw.out]
  have r1 : Bx w1 (w.heap.size + 1) nl := (Bx.new1 w nl _).below hb1 (by simp)
  have hb : Below w.heap.size w w1 := ((below_one _ _).alloc (by simp) _).trans (hb1.mono (by simp; omega))
  clear hb1
  go_wp2_with fail
  have r2 : Bx ((w1.alloc (.cells #[.int .i64 weak.k, .int .i64 weak.n, .string weak.s] 31)).alloc (.cells #[.int .i64 weak.k, .int .i64 weak.n, .string weak.s] 31)) (w.heap.size + 1) nl := (r1.alloc _).alloc _
  have ba : Bx ((w1.alloc (.cells #[.int .i64 weak.k, .int .i64 weak.n, .string weak.s] 31)).alloc (.cells #[.int .i64 weak.k, .int .i64 weak.n, .string weak.s] 31)) (w1.heap.size + 1) weak := Bx.new1 w1 weak _
  have hb2 : Below w.heap.size w ((w1.alloc (.cells #[.int .i64 weak.k, .int .i64 weak.n, .string weak.s] 31)).alloc (.cells #[.int .i64 weak.k, .int .i64 weak.n, .string weak.s] 31)) := (hb.alloc hb.size _).alloc (by simp; have := hb.size; omega) _
  generalize ((w1.alloc (.cells #[.int .i64 weak.k, .int .i64 weak.n, .string weak.s] 31)).alloc (.cells #[.int .i64 weak.k, .int .i64 weak.n, .string weak.s] 31)) = w2 at *
  have a0 := r2.cell0
  have a1 := r2.cell1
  have a2 := r2.cell2
  have f0 := r2.frozen 0
  have f1 := r2.frozen 1
  have f2 := r2.frozen 2
  have b0 := ba.cell0
  have b1 := ba.cell1
  have b2 := ba.cell2
  refine wp_loop_rounds 1 ?_
  rw [rounds_succ]
  go_wp2
  rw [put3_fold]
  exact ret_val (a := weak) Tryz.results80 rfl (r2.put weak) rfl ⟨rfl, put3_below hb2 (by omega) weak⟩

theorem decide_c (strong : Val) (A : Option Addr) (n c : Nat) (vs : List Val) (w : World) (hn : vs.length = n) (hmax : n ≤ maxLen) (hs : Sl w A vs) :
    Calls Tryz.prog 80 #[strong.v, .slice A n c] w fun e w' => e = .returned (dec strong (nt strong) (nt strong) vs).v ∧ Below w.heap.size w w' := by
  rcases hs with rfl | ⟨b, off, rfl, hlt, h⟩
  · obtain rfl : n = 0 := hn.symm
    exact decide_nil strong A c w
  · exact decide_some strong b off n c vs w hn hmax hlt h

def andV (vs : List Val) : Val := dec ff (nt ff) (nt ff) vs
def orV (vs : List Val) : Val := dec tt (nt tt) (nt tt) vs

set_option maxHeartbeats 400000 in
theorem and_c (A : Option Addr) (n c : Nat) (vs : List Val) (w : World) (hn : vs.length = n) (hmax : n ≤ maxLen) (hs : Sl w A vs) :
    Calls Tryz.prog 65 #[.slice A n c] w fun e w' => e = .returned (andV vs).v ∧ Below w.heap.size w w' := by
  have Hn := Lib.hid hn
  have Hs := Lib.hid hs
  clear hn hs
  go_enter Tryz.func65, Tryz.ntmps65
  go_wp2_with fail
  refine (truth_c false _).mono ?_
  rintro e w1 ⟨rfl, hb1⟩
  have r1 : Bx w1 w.heap.size nl := (Bx.new w nl).after hb1
  have hb : Below w.heap.size w w1 := (below_one _ _).trans (hb1.mono (by simp))
  have Hs1 : Hid (Sl w1 A vs) := Hs.out.after hb
  clear hb1
  go_wp2_with fail
  refine (decide_c ff A n c vs w1 Hn.out hmax Hs1.out).mono ?_
  rintro e w2 ⟨rfl, hb2⟩
  have r2 := r1.after hb2
  have hbw := hb.trans (hb2.mono hb.size)
  clear hb2 r1 hb
  have a0 := r2.cell0
  have a1 := r2.cell1
  have a2 := r2.cell2
  have f0 := r2.frozen 0
  have f1 := r2.frozen 1
  have f2 := r2.frozen 2
  go_wp2
  rw [put3_fold]
  exact ret_val (a := dec ff (nt ff) (nt ff) vs) Tryz.results65 rfl (r2.put _) rfl ⟨rfl, put3_below hbw (by omega) _⟩

set_option maxHeartbeats 400000 in
theorem or_c (A : Option Addr) (n c : Nat) (vs : List Val) (w : World) (hn : vs.length = n) (hmax : n ≤ maxLen) (hs : Sl w A vs) :
    Calls Tryz.prog 66 #[.slice A n c] w fun e w' => e = .returned (orV vs).v ∧ Below w.heap.size w w' := by
  have Hn := Lib.hid hn
  have Hs := Lib.hid hs
  clear hn hs
  go_enter Tryz.func66, Tryz.ntmps66
  go_wp2_with fail
  refine (truth_c true _).mono ?_
  rintro e w1 ⟨rfl, hb1⟩
  have r1 : Bx w1 w.heap.size nl := (Bx.new w nl).after hb1
  have hb : Below w.heap.size w w1 := (below_one _ _).trans (hb1.mono (by simp))
  have Hs1 : Hid (Sl w1 A vs) := Hs.out.after hb
  clear hb1
  go_wp2_with fail
  refine (decide_c tt A n c vs w1 Hn.out hmax Hs1.out).mono ?_
  rintro e w2 ⟨rfl, hb2⟩
  have r2 := r1.after hb2
  have hbw := hb.trans (hb2.mono hb.size)
  clear hb2 r1 hb
  have a0 := r2.cell0
  have a1 := r2.cell1
  have a2 := r2.cell2
  have f0 := r2.frozen 0
  have f1 := r2.frozen 1
  have f2 := r2.frozen 2
  go_wp2
  rw [put3_fold]
  exact ret_val (a := dec tt (nt tt) (nt tt) vs) Tryz.results66 rfl (r2.put _) rfl ⟨rfl, put3_below hbw (by omega) _⟩
end Go.Proofs.YticofedglhfdpaaGreatDoor
