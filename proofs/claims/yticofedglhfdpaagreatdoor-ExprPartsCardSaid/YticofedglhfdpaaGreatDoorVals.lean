/-
  What a step leaves on the stack of values: isNull, unlessNull, constant, column and result, of any values.
-/
import Derived.Test.YticofedglhfdpaaGreatDoorStkV
import Derived.Test.YticofedglhfdpaaGreatDoorSumQ
import Derived.Test.YticofedglhfdpaaGreatDoorDecide
import Derived.Test.YticofedglhfdpaaGreatDoorCmpP
import Derived.Test.YticofedglhfdpaaGreatDoorRegJ
namespace Go.Proofs.YticofedglhfdpaaGreatDoor
open Go Go.RowKit
set_option maxRecDepth 100000

theorem ret_valX {fn : Func} {R : Ending → World → Prop} {F : Act} {w : World} {t u : Tmp} {b : Nat} {a : Val} {z : Value} (hres : fn.results = #[.cell t 31, .tmp u]) (ht : Reg.slot F t = .pointer (some ⟨b, 0, none⟩)) (hu : Reg.slot F u = z) (hb : Bx w b a) (hd : F.defers = [])
    (hR : R (.returned (.tuple #[a.v, z])) w) : bodyPost Tryz.prog fn R .ret F w := by
  have h0 := hb.cell0
  have h1 := hb.cell1
  have h2 := hb.cell2
  refine bodyPost_ret (v := .tuple #[a.v, z]) ?_ hd hR
  have ht' : F.tmps[t]?.getD undef = .pointer (some ⟨b, 0, none⟩) := by simpa [Reg.slot] using ht
  have hu' : F.tmps[u]?.getD undef = z := by simpa [Reg.slot] using hu
  simp [results, hres, ht', hu', go_sem, h0, h1, h2]

theorem isNull_c (x : Val) (w : World) : Calls Tryz.prog 68 #[x.v] w fun e w' => e = .returned (.bool (x.k == 0)) ∧ Below w.heap.size w w' := by
  go_enter Tryz.func68, Tryz.ntmps68
  go_wp2
  go_ret
  exact ⟨rfl, below_one _ _⟩

/-- Whether one of the values is null. -/
def anyNull : List Val → Bool
  | [] => false
  | v :: r => v.k == 0 || anyNull r
theorem anyNull_drop (vs : List Val) (k : Nat) (v : Val) (h : vs[k]? = some v) : anyNull (vs.drop k) = (v.k == 0 || anyNull (vs.drop (k + 1))) := by
  have hlt : k < vs.length := (List.getElem?_eq_some_iff.1 h).1
  have hv : vs[k] = v := (List.getElem?_eq_some_iff.1 h).2
  rw [List.drop_eq_getElem_cons hlt, hv, anyNull]
def unl (t : Bool) (vs : List Val) : Val := if anyNull vs then nl else tv t
set_option maxHeartbeats 2000000 in
theorem unlessNull_c (t : Bool) (A : Option Addr) (n c : Nat) (vs : List Val) (w : World) (hn : vs.length = n) (hmax : n ≤ 1000) (hs : Sl w A vs) :
    Calls Tryz.prog 63 #[.bool t, .slice A n c] w fun e w' => e = .returned (unl t vs).v ∧ Below w.heap.size w w' := by
  have Hn := Lib.hid hn
  have Hs := Lib.hid hs
  obtain ⟨R, hR⟩ : ∃ R, unl t vs = R := ⟨_, rfl⟩
  rw [hR]
  have HR := Lib.hid hR
  clear hn hs hR
  go_enter Tryz.func63, Tryz.ntmps63
  go_wp2_with fail
  go_loopw [9] (fun i wr => ∃ k : Nat, k ≤ n ∧ i = .int .i64 k ∧ Bx wr w.heap.size nl ∧ Below w.heap.size w wr ∧ Hid (anyNull (vs.drop k) = anyNull vs)) (fun i _ => n - (intOf i).toNat)
  case atStart => exact ⟨0, Nat.zero_le _, rfl, Bx.new w nl, below_one _ _, rfl⟩
  case round =>
    obtain ⟨k, hk, rfl, br, hbr, hinv⟩ := hrel
    by_cases hlt' : k < n
    · obtain ⟨v, hv⟩ : ∃ v, vs[k]? = some v := ⟨vs[k]'(by rw [Hn.out]; exact hlt'), List.getElem?_eq_getElem _⟩
      rcases Hs.out with h0 | ⟨b, off, rfl, hlt, hc⟩
      · rw [h0] at hv; simp at hv
      obtain ⟨c0, c1, c2⟩ := hc k v hv
      have d0 := (hbr.cell (p := ⟨b, off + k * 3, none⟩) hlt).trans c0
      have d1 := (hbr.cell (p := ⟨b, off + k * 3 + 1, none⟩) hlt).trans c1
      have d2 := (hbr.cell (p := ⟨b, off + k * 3 + 2, none⟩) hlt).trans c2
      have hstep := anyNull_drop vs k v hv
      rw [hinv.out] at hstep
      clear c0 c1 c2 hc hv hinv
      go_wp2_with fail
      refine (isNull_c v _).mono ?_
      rintro e w1 ⟨rfl, hb1⟩
      have br1 : Bx w1 w.heap.size nl := (br.alloc _).after hb1
      have hbr1 : Below w.heap.size w w1 := (hbr.alloc hbr.size _).trans (hb1.mono (by simp; have := hbr.size; omega))
      clear hb1 br hbr d0 d1 d2
      cases hz : v.k == 0
      · rw [hz] at hstep
        have Hst := Lib.hid hstep
        clear hstep
        go_wp2
        go_roundw
        case rel => exact ⟨k + 1, by omega, by go_num, br1, hbr1, Lib.hid (by have := Hst.out; simpa using this.symm)⟩
        case measure => simp [intOf]; omega
      · rw [hz] at hstep
        have hRn : R = nl := by rw [← HR.out]; unfold unl; rw [hstep]; rfl
        have HRn := Lib.hid hRn
        clear hstep hRn
        have g0 := br1.cell0
        have g1 := br1.cell1
        have g2 := br1.cell2
        have f0 := br1.frozen 0
        have f1 := br1.frozen 1
        have f2 := br1.frozen 2
        go_wp2
        rw [HRn.out]
        exact ret_val (a := nl) Tryz.results63 rfl (br1.put nl) rfl ⟨rfl, put3_below hbr1 (Nat.le_refl _) nl⟩
    · have hkn : k = n := by omega
      have hstep := hinv.out
      rw [List.drop_eq_nil_of_le (by rw [Hn.out]; omega)] at hstep
      have hRt : R = tv t := by rw [← HR.out]; unfold unl; rw [← hstep]; rfl
      have HRt := Lib.hid hRt
      clear hstep hinv hRt
      go_wp2_with fail
      refine (truth_c t _).mono ?_
      rintro e w1 ⟨rfl, hb1⟩
      have br1 : Bx w1 w.heap.size nl := br.after hb1
      have hbr1 : Below w.heap.size w w1 := hbr.trans (hb1.mono hbr.size)
      clear hb1 br hbr
      obtain ⟨tt', htt⟩ : ∃ tt', tv t = tt' := ⟨_, rfl⟩
      rw [htt] at HRt ⊢
      clear htt
      have g0 := br1.cell0
      have g1 := br1.cell1
      have g2 := br1.cell2
      have f0 := br1.frozen 0
      have f1 := br1.frozen 1
      have f2 := br1.frozen 2
      go_wp2
      rw [HRt.out]
      exact ret_val (a := tt') Tryz.results63 rfl (br1.put tt') rfl ⟨rfl, put3_below hbr1 (Nat.le_refl _) tt'⟩

/-- What a constant comes to. -/
def conR (x : Val) : Val × Int := if mayB x then (x, 0) else (nl, 30)
set_option maxHeartbeats 1000000 in
theorem constant_c (x : Val) (w : World) (hz : x.s.size ≤ maxLen) : Calls Tryz.prog 45 #[x.v] w fun e w' => e = .returned (.tuple #[(conR x).1.v, .int .i64 (conR x).2]) ∧ Below w.heap.size w w' := by
  have Hz := Lib.hid hz
  obtain ⟨m, hm⟩ : ∃ m, mayB x = m := ⟨_, rfl⟩
  have e0 : conR x = if m then (x, 0) else (nl, 30) := by unfold conR; rw [hm]
  rw [e0]
  have Hm := Lib.hid hm
  clear hz hm e0
  go_enter Tryz.func45, Tryz.ntmps45
  go_wp2_with fail
  refine (may_c x _ Hz.out).mono ?_
  rintro e w1 ⟨rfl, hb1⟩
  rw [Hm.out]
  have bx : Bx w1 w.heap.size x := ((Bx.new w x).alloc _).after hb1
  have br : Bx w1 (w.heap.size + 1) nl := (Bx.new1 w nl _).below hb1 (by simp)
  have hb : Below w.heap.size w w1 := (below_two _ _ _).trans (hb1.mono (by simp; omega))
  clear hb1
  have x0 := bx.cell0
  have x1 := bx.cell1
  have x2 := bx.cell2
  have g0 := br.cell0
  have g1 := br.cell1
  have g2 := br.cell2
  have f0 := br.frozen 0
  have f1 := br.frozen 1
  have f2 := br.frozen 2
  cases m
  · go_wp2
    exact ret_valX (a := nl) (z := .int .i64 30) Tryz.results45 rfl rfl (br.put nl) rfl ⟨rfl, put3_below hb (by omega) nl⟩
  · go_wp2
    exact ret_valX (a := x) (z := .int .i64 0) Tryz.results45 rfl rfl (br.put x) rfl ⟨rfl, put3_below hb (by omega) x⟩

/-- What a column comes to. -/
def vcolR (row : List Val) (n : Int) : Val × Int := if n < 0 then (nl, 30) else match row[n.toNat]? with
  | none => (nl, 30)
  | some x => (x, 0)
set_option maxHeartbeats 1000000 in
theorem vcol_low (b : Nat) (n : Int) (w : World) (hn : n < 0) :
    Calls Tryz.prog 44 #[.pointer (some ⟨b, 0, none⟩), .int .i64 n] w fun e w' => e = .returned (.tuple #[nl.v, .int .i64 30]) ∧ Below w.heap.size w w' := by
  have h1 : decide (n < 0) = true := decide_eq_true hn
  clear hn
  go_enter Tryz.func44, Tryz.ntmps44
  go_wp2
  exact ret_valX (a := nl) (z := .int .i64 30) Tryz.results44 rfl rfl (Bx.new w nl) rfl ⟨rfl, below_one _ _⟩
set_option maxHeartbeats 1000000 in
theorem vcol_high (b : Nat) (n m : Nat) (c : Nat) (A : Option Addr) (v : Value) (w : World) (hk : Vx w b v (.slice A m c)) (hn : m ≤ n) :
    Calls Tryz.prog 44 #[.pointer (some ⟨b, 0, none⟩), .int .i64 n] w fun e w' => e = .returned (.tuple #[nl.v, .int .i64 30]) ∧ Below w.heap.size w w' := by
  have c1 := hk.cell1
  have hlt := hk.lt
  have h1 : decide ((n : Int) < 0) = false := decide_eq_false (by omega)
  have h2 : decide ((m : Int) ≤ n) = true := decide_eq_true (by omega)
  clear hk
  go_enter Tryz.func44, Tryz.ntmps44
  go_wp2
  exact ret_valX (a := nl) (z := .int .i64 30) Tryz.results44 rfl rfl (Bx.new w nl) rfl ⟨rfl, below_one _ _⟩
set_option maxHeartbeats 1000000 in
theorem vcol_in (b : Nat) (n m : Nat) (c off g : Nat) (x : Val) (v : Value) (w : World) (hk : Vx w b v (.slice (some ⟨g, off, none⟩) m c)) (hn : n < m) (hg : g < w.heap.size)
    (e0 : w.cell? ⟨g, off + n * 3, none⟩ = some (.int .i64 x.k)) (e1 : w.cell? ⟨g, off + n * 3 + 1, none⟩ = some (.int .i64 x.n)) (e2 : w.cell? ⟨g, off + n * 3 + 2, none⟩ = some (.string x.s)) :
    Calls Tryz.prog 44 #[.pointer (some ⟨b, 0, none⟩), .int .i64 n] w fun e w' => e = .returned (.tuple #[x.v, .int .i64 0]) ∧ Below w.heap.size w w' := by
  have c1 := hk.cell1
  have hlt := hk.lt
  have h1 : decide ((n : Int) < 0) = false := decide_eq_false (by omega)
  have h2 : decide ((m : Int) ≤ n) = false := decide_eq_false (by omega)
  clear hk
  go_enter Tryz.func44, Tryz.ntmps44
  go_wp2
  exact ret_valX (a := x) (z := .int .i64 0) Tryz.results44 rfl rfl (Bx.new w x) rfl ⟨rfl, below_one _ _⟩
theorem vcol_c (b : Nat) (n : Int) (m c : Nat) (A : Option Addr) (row : List Val) (v : Value) (w : World) (hk : Vx w b v (.slice A m c)) (hl : row.length = m) (hs : Sl w A row) :
    Calls Tryz.prog 44 #[.pointer (some ⟨b, 0, none⟩), .int .i64 n] w fun e w' => e = .returned (.tuple #[(vcolR row n).1.v, .int .i64 (vcolR row n).2]) ∧ Below w.heap.size w w' := by
  unfold vcolR
  by_cases hn : n < 0
  · rw [if_pos hn]
    exact vcol_low b n w hn
  · rw [if_neg hn]
    obtain ⟨i, rfl⟩ : ∃ i : Nat, n = i := ⟨n.toNat, by omega⟩
    rw [Int.toNat_natCast]
    cases h : row[i]? with
    | none => exact vcol_high b i m c A v w hk (by rw [← hl]; exact List.getElem?_eq_none_iff.1 h)
    | some x =>
      have hlt := (List.getElem?_eq_some_iff.1 h).1
      rcases hs with h0 | ⟨g, off, rfl, hg, hc⟩
      · rw [h0] at h; simp at h
      · obtain ⟨e0, e1, e2⟩ := hc i x h
        exact vcol_in b i m c off g x v w hk (by omega) hg e0 e1 e2

set_option maxHeartbeats 1000000 in
theorem vresult_one (b : Nat) (x : Val) (v u : Value) (B : Nat) (w : World) (hk : Vx w b v u) (ho : OwnV w B v [x]) :
    Calls Tryz.prog 17 #[.pointer (some ⟨b, 0, none⟩)] w fun e w' => e = .returned (.tuple #[x.v, .int .i64 0]) ∧ Below w.heap.size w w' := by
  have c0 := hk.cell0
  have hlt := hk.lt
  rcases ho.shape with ⟨_, h0⟩ | ⟨g, c, rfl, hc, hm, hcell⟩
  · cases h0
  have hg := (ho.lt g rfl).2
  obtain ⟨e0, e1, e2⟩ := hcell 0 x rfl
  rw [Nat.zero_mul] at e0 e1 e2
  rw [Nat.zero_add] at e1 e2
  clear hk ho hcell
  go_enter Tryz.func17, Tryz.ntmps17
  go_wp2
  exact ret_valX (a := x) (z := .int .i64 0) Tryz.results17 rfl rfl (Bx.new w x) rfl ⟨rfl, below_one _ _⟩
set_option maxHeartbeats 1000000 in
theorem vresult_bad (b : Nat) (ks : List Val) (v u : Value) (B : Nat) (w : World) (hk : Vx w b v u) (ho : OwnV w B v ks) (hl : ks.length ≠ 1) :
    Calls Tryz.prog 17 #[.pointer (some ⟨b, 0, none⟩)] w fun e w' => e = .returned (.tuple #[nl.v, .int .i64 30]) ∧ Below w.heap.size w w' := by
  have c0 := hk.cell0
  have hlt := hk.lt
  have hl2 : ((ks.length : Int) != 1) = true := by simp; omega
  rcases ho.shape with ⟨rfl, h0⟩ | ⟨g, c, rfl, hc, hm, hcell⟩
  all_goals
    clear hk ho
    go_enter Tryz.func17, Tryz.ntmps17
    go_wp2
    exact ret_valX (a := nl) (z := .int .i64 30) Tryz.results17 rfl rfl ((Bx.new w nl).alloc _) rfl ⟨rfl, below_two _ _ _⟩
end Go.Proofs.YticofedglhfdpaaGreatDoor
