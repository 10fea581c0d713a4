/-
  Tokens in memory; a number, out of its digits, as the program reads it: of texts of at most 1000000 bytes.
-/
import Derived.Test.YtmgmdkagnhmihaaDoorLexB
namespace Go.Proofs.YtmgmdkagnhmihaaDoor
open Go Go.RowKit
set_option maxRecDepth 100000

abbrev Tk.val (a : Tk) : Value := .agg #[.int .i64 a.k, .string a.t, .int .i64 a.v.k, .int .i64 a.v.n, .string a.v.s]
abbrev Tk.obj (a : Tk) : Obj := .cells #[.int .i64 a.k, .string a.t, .int .i64 a.v.k, .int .i64 a.v.n, .string a.v.s] 35
/-- Block b holds the token a. -/
def Bt (w : World) (b : Nat) (a : Tk) : Prop := w.heap[b]? = some (.cells #[.int .i64 a.k, .string a.t, .int .i64 a.v.k, .int .i64 a.v.n, .string a.v.s] 35 (0, 0))
theorem Bt.cell0 {w : World} {b : Nat} {a : Tk} (h : Bt w b a) : w.cell? ⟨b, 0, none⟩ = some (.int .i64 a.k) := by unfold Bt at h; simp [World.cell?, h]
theorem Bt.cell1 {w : World} {b : Nat} {a : Tk} (h : Bt w b a) : w.cell? ⟨b, 1, none⟩ = some (.string a.t) := by unfold Bt at h; simp [World.cell?, h]
theorem Bt.cell2 {w : World} {b : Nat} {a : Tk} (h : Bt w b a) : w.cell? ⟨b, 2, none⟩ = some (.int .i64 a.v.k) := by unfold Bt at h; simp [World.cell?, h]
theorem Bt.cell3 {w : World} {b : Nat} {a : Tk} (h : Bt w b a) : w.cell? ⟨b, 3, none⟩ = some (.int .i64 a.v.n) := by unfold Bt at h; simp [World.cell?, h]
theorem Bt.cell4 {w : World} {b : Nat} {a : Tk} (h : Bt w b a) : w.cell? ⟨b, 4, none⟩ = some (.string a.v.s) := by unfold Bt at h; simp [World.cell?, h]
theorem Bt.frozen {w : World} {b : Nat} {a : Tk} (h : Bt w b a) (i : Nat) : w.frozen? ⟨b, i, none⟩ = false := by
  unfold Bt at h
  simp [World.frozen?, h]
theorem Bt.lt {w : World} {b : Nat} {a : Tk} (h : Bt w b a) : b < w.heap.size := by
  rcases Nat.lt_or_ge b w.heap.size with hlt | hge
  · exact hlt
  · unfold Bt at h; rw [Array.getElem?_eq_none hge] at h; cases h
theorem Bt.after {w w' : World} {b : Nat} {a : Tk} (h : Bt w b a) (hb : Below w.heap.size w w') : Bt w' b a := (hb.block b h.lt).trans h
theorem Bt.new (w : World) (a : Tk) : Bt (w.alloc a.obj) w.heap.size a := by
  show (w.heap.push _)[w.heap.size]? = _
  simp
/-- The world with the token a in block b. -/
def put5 (w : World) (b : Nat) (a : Tk) : World := ((((w.setCell ⟨b, 0, none⟩ (.int .i64 a.k)).setCell ⟨b, 1, none⟩ (.string a.t)).setCell ⟨b, 2, none⟩ (.int .i64 a.v.k)).setCell ⟨b, 3, none⟩ (.int .i64 a.v.n)).setCell ⟨b, 4, none⟩ (.string a.v.s)
theorem put5_size (w : World) (b : Nat) (a : Tk) : (put5 w b a).heap.size = w.heap.size := by simp [put5, World.setCell]
theorem Bt.put {w : World} {b : Nat} {x : Tk} (h : Bt w b x) (a : Tk) : Bt (put5 w b a) b a := by
  unfold Bt at h
  simp [Bt, put5, World.setCell, Array.getElem?_modify, h]
theorem put5_below {B : Nat} {w0 w : World} {b : Nat} (h : Below B w0 w) (hb : B ≤ b) (a : Tk) : Below B w0 (put5 w b a) := ((((h.setCell hb _).setCell hb _).setCell hb _).setCell hb _).setCell hb _
theorem put5_heap {w : World} {b k : Nat} (a : Tk) (hne : k ≠ b) : (put5 w b a).heap[k]? = w.heap[k]? := by
  simp only [put5]
  rw [Below.heap_setCell _ _ _ _ (by exact hne), Below.heap_setCell _ _ _ _ (by exact hne), Below.heap_setCell _ _ _ _ (by exact hne), Below.heap_setCell _ _ _ _ (by exact hne), Below.heap_setCell _ _ _ _ (by exact hne)]
/-- A function whose results are a token and another value, at its return. -/
theorem ret_tok {fn : Func} {R : Ending → World → Prop} {F : Act} {w : World} {t u : Tmp} {b : Nat} {a : Tk} {z : Value} (hres : fn.results = #[.cell t 35, .tmp u]) (ht : Reg.slot F t = .pointer (some ⟨b, 0, none⟩)) (hu : Reg.slot F u = z) (hb : Bt w b a) (hd : F.defers = [])
    (hR : R (.returned (.tuple #[a.val, z])) w) : bodyPost Tryd.prog fn R .ret F w := by
  have h0 := hb.cell0
  have h1 := hb.cell1
  have h2 := hb.cell2
  have h3 := hb.cell3
  have h4 := hb.cell4
  refine bodyPost_ret (v := .tuple #[a.val, z]) ?_ hd hR
  have ht' : F.tmps[t]?.getD undef = .pointer (some ⟨b, 0, none⟩) := by simpa [Reg.slot] using ht
  have hu' : F.tmps[u]?.getD undef = z := by simpa [Reg.slot] using hu
  simp [results, hres, ht', hu', go_sem, h0, h1, h2, h3, h4]
/-- What a walk that turns a token's block must see. -/
theorem Bt.all {w : World} {b : Nat} {a : Tk} (h : Bt w b a) : w.cell? ⟨b, 0, none⟩ = some (.int .i64 a.k) ∧ w.cell? ⟨b, 1, none⟩ = some (.string a.t) ∧ w.cell? ⟨b, 2, none⟩ = some (.int .i64 a.v.k) ∧ w.cell? ⟨b, 3, none⟩ = some (.int .i64 a.v.n) ∧ w.cell? ⟨b, 4, none⟩ = some (.string a.v.s) ∧
    w.frozen? ⟨b, 0, none⟩ = false ∧ w.frozen? ⟨b, 1, none⟩ = false ∧ w.frozen? ⟨b, 2, none⟩ = false ∧ w.frozen? ⟨b, 3, none⟩ = false ∧ w.frozen? ⟨b, 4, none⟩ = false ∧ b < w.heap.size :=
  ⟨h.cell0, h.cell1, h.cell2, h.cell3, h.cell4, h.frozen 0, h.frozen 1, h.frozen 2, h.frozen 3, h.frozen 4, h.lt⟩
set_option maxHeartbeats 1000000 in
theorem number_syn (l : List UInt8) (w : World) (hl : l.length ≤ 1000000) (hG : GL w) (ha : Lib.atoiAll l = .«syntax») : Calls Tryd.prog 33 #[.string (ba l)] w fun e w' => e = .returned (.tuple #[tk0.val, .bool false]) ∧ Below w.heap.size w w' := by
  have HG := Lib.hid hG
  have Ha := Lib.hid ha
  clear hG ha
  go_enter Tryd.func33, Tryd.ntmps33
  go_wp2_with fail
  obtain ⟨tp, p, hv⟩ := (HG.out.after (below_one w tk0.obj)).syn
  refine (Tryd.strconv_Atoi_syntax_var (ba l) (show l.toArray.size ≤ _ by simp; omega) Ha.out tp p _ hv).mono ?_
  rintro e w1 ⟨N, rfl, _, _, hb⟩
  have hB := (Bt.new w tk0).after hb
  have Hb := Lib.hid ((below_one w _).trans (hb.mono (by simp)))
  obtain ⟨c0, c1, c2, c3, c4, f0, f1, f2, f3, f4, hlt⟩ := hB.all
  have HB := Lib.hid hB
  clear hv hb hB
  go_wp2
  exact ret_tok (a := tk0) Tryd.results33 rfl rfl (HB.out.put tk0) rfl ⟨rfl, put5_below Hb.out (Nat.le_refl _) tk0⟩
set_option maxHeartbeats 1000000 in
theorem number_rng (l : List UInt8) (w : World) (hl : l.length ≤ 1000000) (hG : GL w) (ha : Lib.atoiAll l = .range) : Calls Tryd.prog 33 #[.string (ba l)] w fun e w' => e = .returned (.tuple #[tk0.val, .bool false]) ∧ Below w.heap.size w w' := by
  have HG := Lib.hid hG
  have Ha := Lib.hid ha
  clear hG ha
  go_enter Tryd.func33, Tryd.ntmps33
  go_wp2_with fail
  obtain ⟨tp, p, hv⟩ := (HG.out.after (below_one w tk0.obj)).rng
  refine (Tryd.strconv_Atoi_range_var (ba l) (show l.toArray.size ≤ _ by simp; omega) Ha.out tp p _ hv).mono ?_
  rintro e w1 ⟨N, rfl, _, _, hb⟩
  have hB := (Bt.new w tk0).after hb
  have Hb := Lib.hid ((below_one w _).trans (hb.mono (by simp)))
  obtain ⟨c0, c1, c2, c3, c4, f0, f1, f2, f3, f4, hlt⟩ := hB.all
  have HB := Lib.hid hB
  clear hv hb hB
  go_wp2
  exact ret_tok (a := tk0) Tryd.results33 rfl rfl (HB.out.put tk0) rfl ⟨rfl, put5_below Hb.out (Nat.le_refl _) tk0⟩
set_option maxHeartbeats 1000000 in
theorem number_ok (l : List UInt8) (v : Int) (w : World) (hl : l.length ≤ 1000000) (hG : GL w) (ha : Lib.atoiAll l = .ok v) : Calls Tryd.prog 33 #[.string (ba l)] w fun e w' => e = .returned (if Lib.itoa v = l then .tuple #[(intT v).val, .bool true] else .tuple #[tk0.val, .bool false]) ∧ Below w.heap.size w w' := by
  obtain ⟨R, hR⟩ : ∃ R, (if Lib.itoa v = l then Value.tuple #[(intT v).val, .bool true] else .tuple #[tk0.val, .bool false]) = R := ⟨_, rfl⟩
  rw [hR]
  have HR := Lib.hid hR
  have HG := Lib.hid hG
  have Ha := Lib.hid ha
  have H6 := Lib.hid (atoi_64 ha)
  clear hG ha hR
  go_enter Tryd.func33, Tryd.ntmps33
  go_wp2_with fail
  refine (Tryd.strconv_Atoi_ok (ba l) (show l.toArray.size ≤ _ by simp; omega) v Ha.out _).mono ?_
  rintro e w1 ⟨rfl, hb⟩
  have hb : Below (w.alloc tk0.obj).heap.size (w.alloc tk0.obj) w1 := by
    rcases hb with rfl | ⟨t, rfl⟩
    · exact Below.refl _ _
    · exact Lib.bytesWorld_below _ _ _
  have hB := (Bt.new w tk0).after hb
  have hb1 := (below_one w tk0.obj).trans (hb.mono (by simp))
  have HG1 := Lib.hid ((HG.out.after (below_one w tk0.obj)).after hb)
  have Hb := Lib.hid hb1
  have HB := Lib.hid hB
  clear hb hb1 hB
  go_wp2_with fail
  refine (Tryd.strconv_Itoa v H6.out.1 H6.out.2 _ HG1.out.gl.tab).mono ?_
  rintro e w2 ⟨rfl, k, os, hw⟩
  have hb2 : Below w1.heap.size w1 w2 := by rw [hw]; exact below_grow _ k os
  have hB := HB.out.after hb2
  have Hb2 := Lib.hid (Hb.out.trans (hb2.mono Hb.out.size))
  obtain ⟨c0, c1, c2, c3, c4, f0, f1, f2, f3, f4, hlt⟩ := hB.all
  have HB2 := Lib.hid hB
  clear hw hb2 hB HB Hb
  by_cases he : Lib.itoa v = l
  · have hR := HR.out
    rw [if_pos he] at hR
    subst hR
    clear HR
    obtain ⟨s, hs⟩ : ∃ s, (⟨(Lib.itoa v).toArray⟩ : ByteArray) = s := ⟨_, rfl⟩
    have hs2 : ba l = s := by rw [← hs, ← he]
    rw [hs, hs2]
    clear hs hs2 he
    go_wp2
    exact ret_tok (a := intT v) Tryd.results33 rfl rfl (HB2.out.put (intT v)) rfl ⟨rfl, put5_below Hb2.out (Nat.le_refl _) (intT v)⟩
  · have hR := HR.out
    rw [if_neg he] at hR
    subst hR
    clear HR
    have hne : ((⟨(Lib.itoa v).toArray⟩ : ByteArray).toList == l) = false := by
      rw [ByteArray.toList_eq]
      simpa using he
    clear he
    generalize (⟨(Lib.itoa v).toArray⟩ : ByteArray) = s at hne ⊢
    go_wp2
    exact ret_tok (a := tk0) Tryd.results33 rfl rfl (HB2.out.put tk0) rfl ⟨rfl, put5_below Hb2.out (Nat.le_refl _) tk0⟩
/-- What a number's reading tells. -/
def numV (l : List UInt8) : Value := match numT l with
  | some t => .tuple #[t.val, .bool true]
  | none => .tuple #[tk0.val, .bool false]
theorem number_c (l : List UInt8) (w : World) (hl : l.length ≤ 1000000) (hG : GL w) : Calls Tryd.prog 33 #[.string (ba l)] w fun e w' => e = .returned (numV l) ∧ Below w.heap.size w w' := by
  cases ha : Lib.atoiAll l with
  | ok v =>
    have h := number_ok l v w hl hG ha
    have e : (if Lib.itoa v = l then Value.tuple #[(intT v).val, .bool true] else .tuple #[tk0.val, .bool false]) = numV l := by
      unfold numV numT
      rw [ha]
      simp only
      split <;> rfl
    rw [e] at h
    exact h
  | «syntax» =>
    have e : numV l = .tuple #[tk0.val, .bool false] := by unfold numV numT; rw [ha]
    rw [e]
    exact number_syn l w hl hG ha
  | range =>
    have e : numV l = .tuple #[tk0.val, .bool false] := by unfold numV numT; rw [ha]
    rw [e]
    exact number_rng l w hl hG ha
end Go.Proofs.YtmgmdkagnhmihaaDoor
