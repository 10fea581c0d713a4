/-
  What a step of an expression does to the stack of values: leaves and step, of any step and any stack that is the call's own.
-/
import Derived.Test.YticofedglhfdpaaGreatDoorComp
import Derived.Test.YticofedglhfdpaaGreatDoorMayT
import Derived.Test.YticofedglhfdpaaGreatDoorKStep
namespace Go.Proofs.YticofedglhfdpaaGreatDoor
open Go Go.RowKit
set_option maxRecDepth 100000

theorem put3_heap (w : World) (c k : Nat) (a : Val) (hne : k ≠ c) : (put3 w c a).heap[k]? = w.heap[k]? := by
  simp only [put3]
  rw [Below.heap_setCell _ _ _ _ (by exact hne), Below.heap_setCell _ _ _ _ (by exact hne), Below.heap_setCell _ _ _ _ (by exact hne)]
theorem Vx.put3 {w : World} {b c : Nat} {v u : Value} (h : Vx w b v u) (hne : b ≠ c) (a : Val) : Vx (put3 w c a) b v u := (put3_heap w c b a hne).trans h
theorem Vx.alloc {w : World} {b : Nat} {v u : Value} (h : Vx w b v u) (o : Obj) : Vx (w.alloc o) b v u := h.after (below_one w o)
theorem OwnV.put3 {w : World} {B c : Nat} {v : Value} {ks : List Val} (h : OwnV w B v ks) (hne : ∀ k, v.ownBlock = some k → k ≠ c) (a : Val) : OwnV (put3 w c a) B v ks :=
  h.same fun k hk => put3_heap w c k a (hne k hk)
theorem Nx.setV {w : World} {b c : Nat} {x : Nd} {y v u : Value} (h : Nx w b x) (hk : Vx w c v u) : Nx (w.setCell ⟨c, 0, none⟩ y) b x := by
  refine h.block (Below.heap_setCell _ _ _ _ ?_)
  show b ≠ c
  rintro rfl
  unfold Nx at h
  unfold Vx at hk
  rw [hk] at h
  injection h with h
  injection h with _ ht _
  exact absurd ht (by decide)
theorem Bx.setV {w : World} {b c : Nat} {x : Val} {y v u : Value} (h : Bx w b x) (hk : Vx w c v u) : Bx (w.setCell ⟨c, 0, none⟩ y) b x := by
  refine (Below.heap_setCell _ _ _ _ ?_).trans h
  show b ≠ c
  rintro rfl
  unfold Bx at h
  unfold Vx at hk
  rw [hk] at h
  injection h with h
  injection h with _ ht _
  exact absurd ht (by decide)
theorem pop_detW (n : Nat) (v : Value) (ks : List Val) (w0 : World) (B0 : Nat) (ho0 : OwnV w0 B0 v ks) (hn : n ≤ 2) (hl : n ≤ ks.length) (hmax : ks.length ≤ 1000) :
    ∃ A c v', v'.ownBlock = v.ownBlock ∧ ∀ (b : Nat) (u : Value) (B : Nat) (w : World), Vx w b v u → OwnV w B v ks → Calls Tryz.prog 46 #[.pointer (some ⟨b, 0, none⟩), .int .i64 n] w (PopPostV b n ks B A c v' w) := by
  rcases ho0.shape with ⟨rfl, rfl⟩ | ⟨g, c, rfl, hle, _, _⟩
  · obtain rfl : n = 0 := by simpa using hl
    exact ⟨none, 0, _, rfl, fun b u B w hk _ => pop_nilV b u B w hk⟩
  · have hcc : ks.length - n ≤ c := by omega
    rcases Nat.eq_or_lt_of_le hcc with hc1 | hc1
    · exact ⟨some ⟨g, 0, none⟩, 0, .slice (some ⟨g, 0, none⟩) c c, rfl, fun b u B w hk ho => pop_fullV b n g c _ u ks B w hk ho rfl hn hl hmax hle hc1⟩
    · exact ⟨some ⟨g, (ks.length - n) * 3, none⟩, c - (ks.length - n), .slice (some ⟨g, 0, none⟩) (ks.length - n) c, rfl, fun b u B w hk ho => pop_moreV b n g c _ u ks B w hk ho rfl hn hl hmax hle hc1⟩

/-- What a step makes of the values that it takes. -/
def opR (op : Int) (ts : List Val) : Val × Int := if mtR op ts then (if (cmpR op ts).2 then ((cmpR op ts).1, 0) else (nl, 31)) else (nl, 30)
/-- What a step leaves: the value, what is wrong, and what stays on the stack. -/
def lvV (row ks : List Val) (x : Nd) : Val × Int × List Val :=
  if x.op == 0 then ((vcolR row x.n).1, (vcolR row x.n).2, ks) else if x.op == 1 then ((conR x.v).1, (conR x.v).2, ks)
  else if ks.length < takes x.op then (nl, 30, ks) else ((opR x.op (ks.drop (ks.length - takes x.op))).1, (opR x.op (ks.drop (ks.length - takes x.op))).2, ks.take (ks.length - takes x.op))
def VlPost (b : Nat) (u : Value) (B : Nat) (r : Val × Int × List Val) (w : World) (e : Ending) (w' : World) : Prop :=
  e = .returned (.tuple #[r.1.v, .int .i64 r.2.1]) ∧ Below B w w' ∧ ∃ v', Vx w' b v' u ∧ OwnV w' B v' r.2.2
theorem enPopV : ∀ args w, (callFunc 46 args).run Tryz.prog w = .ok (.enter 46 args) w := fun _ _ => by kernel_rfl
theorem enPushV : ∀ args w, (callFunc 28 args).run Tryz.prog w = .ok (.enter 28 args) w := fun _ _ => by kernel_rfl
theorem fa_vals0 (w : World) (b : Nat) : (Instr.fieldAt 51 (.pointer (some ⟨b, 0, none⟩)) 0).run Tryz.prog w = .ok (.pointer (some ⟨b, 0, none⟩)) w := by go_simp
/-- The end of leaves: the result is written, all else is as it was. -/
theorem vl_end {b B : Nat} {u v' : Value} {rest : List Val} {w w1 : World} {r : Val} {er : Int} (hB : B ≤ b) (hlt : b < w.heap.size) (hb : Below B w w1) (br : Bx w1 (w.heap.size + 1) nl) (k : Vx w1 b v' u) (o : OwnV w1 B v' rest) (hv : ∀ k, v'.ownBlock = some k → k < w.heap.size) :
    VlPost b u B (r, er, rest) w (.returned (.tuple #[r.v, .int .i64 er])) (put3 w1 (w.heap.size + 1) r) ∧ Bx (put3 w1 (w.heap.size + 1) r) (w.heap.size + 1) r :=
  ⟨⟨rfl, put3_below hb (by omega) r, v', k.put3 (by omega) r, o.put3 (fun k hk => by have := hv k hk; omega) r⟩, br.put r⟩

theorem VlPost.alloc {b B : Nat} {u : Value} {r : Val × Int × List Val} {w w' : World} {e : Ending} (h : VlPost b u B r w e w') (hB : B ≤ w'.heap.size) (o : Obj) : VlPost b u B r w e (w'.alloc o) := by
  obtain ⟨h1, h2, v', k, ow⟩ := h
  exact ⟨h1, h2.alloc hB o, v', k.alloc o, ow.alloc o⟩
set_option maxHeartbeats 1000000 in
theorem vleaves_col (b B : Nat) (x : Nd) (v : Value) (A : Option Addr) (m c : Nat) (row ks : List Val) (w : World) (hk : Vx w b v (.slice A m c)) (ho : OwnV w B v ks) (hB : B ≤ b) (hl : row.length = m) (hs : Sl w A row) (hop : (x.op == 0) = true) :
    Calls Tryz.prog 27 #[.pointer (some ⟨b, 0, none⟩), x.w] w (VlPost b (.slice A m c) B ((vcolR row x.n).1, (vcolR row x.n).2, ks) w) := by
  have hlt := hk.lt
  have Hk := Lib.hid hk
  have Ho := Lib.hid ho
  have Hs := Lib.hid hs
  have Hl := Lib.hid hl
  clear hk ho hs hl
  obtain ⟨r1, r2, hr⟩ : ∃ r1 r2, vcolR row x.n = (r1, r2) := ⟨_, _, rfl⟩
  rw [hr]
  have Hr := Lib.hid hr
  clear hr
  go_enter Tryz.func27, Tryz.ntmps27
  go_wp2_with fail
  refine (vcol_c b x.n m c A row v _ ((Hk.out.alloc _).alloc _) Hl.out ((Hs.out.alloc _).alloc _)).mono ?_
  rintro e w1 ⟨rfl, hb1⟩
  rw [Hr.out]
  have br : Bx w1 (w.heap.size + 1) nl := (Bx.new1 w nl _).after hb1
  have hb : Below w.heap.size w w1 := (below_two _ _ _).trans (hb1.mono (by simp; omega))
  have g0 := br.cell0
  have g1 := br.cell1
  have g2 := br.cell2
  have f0 := br.frozen 0
  have f1 := br.frozen 1
  have f2 := br.frozen 2
  have He := Lib.hid (vl_end (r := r1) (er := r2) hB hlt (hb.mono (by omega)) br (Hk.out.after hb) (Ho.out.after hb) (fun k hk => (Ho.out.lt k hk).2))
  clear hb1 hb
  go_wp2
  exact ret_valX (a := r1) (z := .int .i64 r2) Tryz.results27 rfl rfl He.out.2 rfl He.out.1

set_option maxHeartbeats 1000000 in
theorem vleaves_const (b B : Nat) (x : Nd) (v u : Value) (ks : List Val) (w : World) (hk : Vx w b v u) (ho : OwnV w B v ks) (hB : B ≤ b) (hz : x.v.s.size ≤ maxLen) (h0 : (x.op == 0) = false) (hop : (x.op == 1) = true) :
    Calls Tryz.prog 27 #[.pointer (some ⟨b, 0, none⟩), x.w] w (VlPost b u B ((conR x.v).1, (conR x.v).2, ks) w) := by
  have hlt := hk.lt
  have Hk := Lib.hid hk
  have Ho := Lib.hid ho
  have Hz := Lib.hid hz
  clear hk ho hz
  obtain ⟨r1, r2, hr⟩ : ∃ r1 r2, conR x.v = (r1, r2) := ⟨_, _, rfl⟩
  rw [hr]
  have Hr := Lib.hid hr
  clear hr
  go_enter Tryz.func27, Tryz.ntmps27
  go_wp2_with fail
  refine (constant_c x.v _ Hz.out).mono ?_
  rintro e w1 ⟨rfl, hb1⟩
  rw [Hr.out]
  have br : Bx w1 (w.heap.size + 1) nl := (Bx.new1 w nl _).after hb1
  have hb : Below w.heap.size w w1 := (below_two _ _ _).trans (hb1.mono (by simp; omega))
  have g0 := br.cell0
  have g1 := br.cell1
  have g2 := br.cell2
  have f0 := br.frozen 0
  have f1 := br.frozen 1
  have f2 := br.frozen 2
  have He := Lib.hid (vl_end (r := r1) (er := r2) hB hlt (hb.mono (by omega)) br (Hk.out.after hb) (Ho.out.after hb) (fun k hk => (Ho.out.lt k hk).2))
  clear hb1 hb
  go_wp2
  exact ret_valX (a := r1) (z := .int .i64 r2) Tryz.results27 rfl rfl He.out.2 rfl He.out.1

set_option maxHeartbeats 1000000 in
theorem vleaves_few (b B : Nat) (x : Nd) (v u : Value) (ks : List Val) (w : World) (hk : Vx w b v u) (ho : OwnV w B v ks) (hB : B ≤ b) (h0 : (x.op == 0) = false) (h1 : (x.op == 1) = false) (hl : ks.length < takes x.op) :
    Calls Tryz.prog 27 #[.pointer (some ⟨b, 0, none⟩), x.w] w (VlPost b u B (nl, 30, ks) w) := by
  have hlt := hk.lt
  have Hk := Lib.hid hk
  have Ho := Lib.hid ho
  have Hl := Lib.hid hl
  clear hk ho hl
  obtain ⟨T, hT⟩ : ∃ T, takes x.op = T := ⟨_, rfl⟩
  have HT := Lib.hid hT
  clear hT
  go_enter Tryz.func27, Tryz.ntmps27
  go_wp2_with fail
  have hn0 : Nx ((w.alloc (.cells x.cells 36)).alloc (.cells #[.int .i64 nl.k, .int .i64 nl.n, .string nl.s] 31)) w.heap.size x := (Nx.new w x).after (below_one _ _)
  refine Reg.wp_region_vals mixed (by kernel_rfl) [(27, .pointer (some ⟨b, 0, none⟩)), (28, .pointer (some ⟨b, 0, none⟩)), (29, .pointer (some ⟨b, 0, none⟩)), (30, .pointer (some ⟨w.heap.size, 0, none⟩)), (31, .int .i64 x.op), (32, .int .i64 T), (33, .tuple #[.slice none 0 0, .bool false]), (26, .tuple #[.slice none 0 0, .bool false]), (34, .slice none 0 0), (35, .bool false), (6, .slice none 0 0), (7, .bool false)] 57 rfl (by kernel_rfl) ?_ ?_
  · intro F hF w' hB'
    have hn : Nx w' w.heap.size x := hn0.after hB'
    have hk' : Vx w' b v u := ((Hk.out.alloc _).alloc _).after hB'
    have ho' : OwnV w' B v ks := ((Ho.out.alloc _).alloc _).after hB'
    refine ⟨?_, ?_, ?_, ?_, ?_, ?_, ?_, ?_, ?_, ?_, ?_, ?_, trivial⟩
    · exact Reg.doesV_val (ev_move rfl) (by rw [hF]; kernel_rfl) (by rw [hF]; kernel_rfl)
    · exact Reg.doesV_val (ev_nc (a := ⟨b, 0, none⟩) rfl (by rw [hF]; kernel_rfl)) (by rw [hF]; kernel_rfl) (by rw [hF]; kernel_rfl)
    · exact Reg.doesV_val (ev_fa rfl (by rw [hF]; kernel_rfl) (fa_vals0 w' b)) (by rw [hF]; kernel_rfl) (by rw [hF]; kernel_rfl)
    · exact Reg.doesV_val (ev_fa rfl (by rw [hF]; kernel_rfl) (fa_node0 w' w.heap.size)) (by rw [hF]; kernel_rfl) (by rw [hF]; kernel_rfl)
    · exact Reg.doesV_val (ev_ld rfl (by rw [hF]; kernel_rfl) hn.ldO) (by rw [hF]; kernel_rfl) (by rw [hF]; kernel_rfl)
    · exact Reg.doesV_call (by have h := operands_c x.op w'; rw [HT.out] at h; exact h.mono (fun e w2 hh => ⟨hh.1, hh.2 ▸ Below.refl _ _⟩)) (ev_call enOperands rfl (by rw [hF]; kernel_rfl)) (by rw [hF]; kernel_rfl) (by rw [hF]; kernel_rfl)
    · exact Reg.doesV_call ((pop_fewV b T v u ks B w' hk' ho' (by rw [← HT.out]; exact takes_le _) (by rw [← HT.out]; exact Hl.out)).mono (fun e w2 hh => ⟨hh.1, hh.2 ▸ Below.refl _ _⟩)) (ev_call enPopV rfl (by rw [hF]; kernel_rfl)) (by rw [hF]; kernel_rfl) (by rw [hF]; kernel_rfl)
    · exact Reg.doesV_val (ev_move rfl) (by rw [hF]; kernel_rfl) (by rw [hF]; kernel_rfl)
    · exact Reg.doesV_val (ev_extract (vs := #[.slice none 0 0, .bool false]) rfl (by rw [hF]; kernel_rfl) rfl) (by rw [hF]; kernel_rfl) (by rw [hF]; kernel_rfl)
    · exact Reg.doesV_val (ev_extract (vs := #[.slice none 0 0, .bool false]) rfl (by rw [hF]; kernel_rfl) rfl) (by rw [hF]; kernel_rfl) (by rw [hF]; kernel_rfl)
    · exact Reg.doesV_val (ev_assign rfl) (by rw [hF]; kernel_rfl) (by rw [hF]; kernel_rfl)
    · exact Reg.doesV_val (ev_assign rfl) (by rw [hF]; kernel_rfl) (by rw [hF]; kernel_rfl)
  · intro w1 hB'
    simp only [Reg.putAll, Act.put, List.setIfInBounds_toArray, List.set_cons_zero, List.set_cons_succ]
    have br : Bx w1 (w.heap.size + 1) nl := (Bx.new1 w nl _).below hB' (by simp)
    have hb : Below w.heap.size w w1 := (below_two _ _ _).trans (hB'.mono (by simp; omega))
    have g0 := br.cell0
    have g1 := br.cell1
    have g2 := br.cell2
    have f0 := br.frozen 0
    have f1 := br.frozen 1
    have f2 := br.frozen 2
    have He := Lib.hid (vl_end (r := nl) (er := 30) hB hlt (hb.mono (by omega)) br (Hk.out.after hb) (Ho.out.after hb) (fun k hk => (Ho.out.lt k hk).2))
    clear hB' hb
    go_wp2
    exact ret_valX (a := nl) (z := .int .i64 30) Tryz.results27 rfl rfl He.out.2 rfl He.out.1

/-- The two phases of the step that takes its operands. -/
structure VlJ (b B : Nat) (x : Nd) (v u v' : Value) (ks rest ts : List Val) (A : Option Addr) (w0 : World) (ph : Bool) (w : World) : Prop where
  below : Below B w0 w
  size : w0.heap.size + 2 ≤ w.heap.size
  nx : Nx w w0.heap.size x
  bx : Bx w (w0.heap.size + 1) nl
  one : ph = false → Vx w b v u ∧ OwnV w B v ks
  two : ph = true → Vx w b v' u ∧ OwnV w B v' rest ∧ Sl w A ts
theorem VlJ.after {b B : Nat} {x : Nd} {v u v' : Value} {ks rest ts : List Val} {A : Option Addr} {w0 : World} {ph : Bool} {w w' : World} (h : VlJ b B x v u v' ks rest ts A w0 ph w) (hB : B ≤ w.heap.size) (hb : Below w.heap.size w w') : VlJ b B x v u v' ks rest ts A w0 ph w' :=
  ⟨h.below.trans (hb.mono hB), Nat.le_trans h.size hb.size, h.nx.after hb, h.bx.after hb, fun e => ⟨(h.one e).1.after hb, (h.one e).2.after hb⟩, fun e => ⟨(h.two e).1.after hb, (h.two e).2.1.after hb, (h.two e).2.2.after hb⟩⟩

set_option maxHeartbeats 4000000 in
theorem vleaves_op (b B : Nat) (x : Nd) (v u : Value) (ks : List Val) (w : World) (hk : Vx w b v u) (ho : OwnV w B v ks) (hB : B ≤ b) (hmax : ks.length ≤ 1000) (h0 : (x.op == 0) = false) (h1 : (x.op == 1) = false) (hl : takes x.op ≤ ks.length) :
    Calls Tryz.prog 27 #[.pointer (some ⟨b, 0, none⟩), x.w] w (VlPost b u B ((opR x.op (ks.drop (ks.length - takes x.op))).1, (opR x.op (ks.drop (ks.length - takes x.op))).2, ks.take (ks.length - takes x.op)) w) := by
  have hlt := hk.lt
  have Hk := Lib.hid hk
  have Ho := Lib.hid ho
  obtain ⟨T, hT⟩ : ∃ T, takes x.op = T := ⟨_, rfl⟩
  have hT2 : T ≤ 2 := by rw [← hT]; exact takes_le _
  rw [hT] at hl ⊢
  obtain ⟨A, c, v', hvb, hpop⟩ := pop_detW T v ks w B ho hT2 hl hmax
  obtain ⟨ts, hts⟩ : ∃ ts, ks.drop (ks.length - T) = ts := ⟨_, rfl⟩
  obtain ⟨rest, hrest⟩ : ∃ rest, ks.take (ks.length - T) = rest := ⟨_, rfl⟩
  have hlen : ts.length = T := by rw [← hts, List.length_drop]; omega
  obtain ⟨M, hM⟩ : ∃ M, mtR x.op ts = M := ⟨_, rfl⟩
  obtain ⟨C1, C2, hC⟩ : ∃ C1 C2, cmpR x.op ts = (C1, C2) := ⟨_, _, rfl⟩
  rw [hts, hrest]
  have hE : opR x.op ts = if M then (if C2 then (C1, 0) else (nl, 31)) else (nl, 30) := by unfold opR; rw [hM, hC]
  obtain ⟨⟨r1, r2⟩, hR⟩ : ∃ R, opR x.op ts = R := ⟨_, rfl⟩
  rw [hR] at hE ⊢
  have HE := Lib.hid hE
  clear hR
  have hops : M = true → 2 ≤ x.op ∧ x.op ≤ 10 := by
    intro hMt
    rw [← hM] at hMt
    unfold mtR at hMt
    rcases ops_cases x.op with e | e | e | e | e | e | e | e | e | ⟨h2, h3, h4, h5, h6, h7, h8, h9, h10⟩
    all_goals first
      | (rw [e]; decide)
      | (simp [kindR, h2, h3, h4, h5, h6, h7, h8, h9, h10] at hMt)
  have HT := Lib.hid hT
  have Hpop := Lib.hid hpop
  have Hts := Lib.hid hts
  have Hrest := Lib.hid hrest
  have HM := Lib.hid hM
  have HC := Lib.hid hC
  have Hlen := Lib.hid hlen
  have Hops := Lib.hid hops
  have Hv := Lib.hid (show ∀ k, v'.ownBlock = some k → k < w.heap.size from fun k hk => (ho.lt k (by rw [← hvb]; exact hk)).2)
  clear hk ho hT hpop hts hrest hM hC hlen hl hmax hT2 hE hops hvb
  go_enter Tryz.func27, Tryz.ntmps27
  go_wp2_with fail
  have hn0 : Nx ((w.alloc (.cells x.cells 36)).alloc (.cells #[.int .i64 nl.k, .int .i64 nl.n, .string nl.s] 31)) w.heap.size x := (Nx.new w x).after (below_one _ _)
  have hbb : Below B w ((w.alloc (.cells x.cells 36)).alloc (.cells #[.int .i64 nl.k, .int .i64 nl.n, .string nl.s] 31)) := (below_two _ _ _).mono (by omega)
  refine RegT.wp_region_two mixed (by kernel_rfl) (VlJ b B x v u v' ks rest ts A w) 6 (of_decide_eq_true (by kernel_rfl)) ⟨⟨hbb.os, hbb.tape, hbb.output, hbb.size, hbb.block⟩, by show _ ≤ ((w.heap.push _).push _).size; simp, hn0, Bx.new1 w nl _, fun _ => ⟨(Hk.out.alloc _).alloc _, (Ho.out.alloc _).alloc _⟩, fun e => by cases e⟩
    [(27, .pointer (some ⟨b, 0, none⟩)), (28, .pointer (some ⟨b, 0, none⟩)), (29, .pointer (some ⟨b, 0, none⟩)), (30, .pointer (some ⟨w.heap.size, 0, none⟩)), (31, .int .i64 x.op), (32, .int .i64 T), (33, .tuple #[.slice A T c, .bool true]), (26, .tuple #[.slice A T c, .bool true]), (34, .slice A T c), (35, .bool true), (6, .slice A T c), (7, .bool true)] 57 rfl (by kernel_rfl) ?_ ?_
  · intro F hF w' ph hJ
    have hn := hJ.nx
    have hsz : B ≤ w'.heap.size := by have := hJ.below.size; omega
    refine ⟨fun _ => ?_, fun _ => ?_, fun _ => ?_, fun _ => ?_, fun _ => ?_, fun _ => ?_, fun hph => ?_, fun _ => ?_, fun _ => ?_, fun _ => ?_, fun _ => ?_, fun _ => ?_, trivial⟩
    · exact RegT.doesT_val (by decide) hJ (ev_move rfl) (by rw [hF]; kernel_rfl) (by rw [hF]; kernel_rfl)
    · exact RegT.doesT_val (by decide) hJ (ev_nc (a := ⟨b, 0, none⟩) rfl (by rw [hF]; kernel_rfl)) (by rw [hF]; kernel_rfl) (by rw [hF]; kernel_rfl)
    · exact RegT.doesT_val (by decide) hJ (ev_fa rfl (by rw [hF]; kernel_rfl) (fa_vals0 w' b)) (by rw [hF]; kernel_rfl) (by rw [hF]; kernel_rfl)
    · exact RegT.doesT_val (by decide) hJ (ev_fa rfl (by rw [hF]; kernel_rfl) (fa_node0 w' w.heap.size)) (by rw [hF]; kernel_rfl) (by rw [hF]; kernel_rfl)
    · exact RegT.doesT_val (by decide) hJ (ev_ld rfl (by rw [hF]; kernel_rfl) hn.ldO) (by rw [hF]; kernel_rfl) (by rw [hF]; kernel_rfl)
    · exact RegT.doesT_call (by decide) (fun w'' hb => hJ.after hsz hb) (by have h := operands_c x.op w'; rw [HT.out] at h; exact h.mono (fun e w2 hh => ⟨hh.1, hh.2 ▸ Below.refl _ _⟩)) (ev_call enOperands rfl (by rw [hF]; kernel_rfl)) (by rw [hF]; kernel_rfl) (by rw [hF]; kernel_rfl)
    · obtain ⟨k', o'⟩ := hJ.one (hph rfl)
      refine RegT.doesT_main (v := .tuple #[.slice A T c, .bool true]) ((Hpop.out b u B w' k' o').mono ?_) (ev_call enPopV rfl (by rw [hF]; kernel_rfl)) (by rw [hF]; kernel_rfl) (by rw [hF]; kernel_rfl)
      rintro e w2 ⟨he, rfl, p1, p2, p3⟩
      rw [Hrest.out] at p1
      rw [Hts.out] at p2
      exact ⟨he, hJ.below.setCell hB _, by have := hJ.size; simpa [World.setCell] using this, hn.setV k', hJ.bx.setV k', (fun e => by cases e), fun _ => ⟨k'.set v', p1.set k', p2.set p3⟩⟩
    · exact RegT.doesT_val (by decide) hJ (ev_move rfl) (by rw [hF]; kernel_rfl) (by rw [hF]; kernel_rfl)
    · exact RegT.doesT_val (by decide) hJ (ev_extract (vs := #[.slice A T c, .bool true]) rfl (by rw [hF]; kernel_rfl) rfl) (by rw [hF]; kernel_rfl) (by rw [hF]; kernel_rfl)
    · exact RegT.doesT_val (by decide) hJ (ev_extract (vs := #[.slice A T c, .bool true]) rfl (by rw [hF]; kernel_rfl) rfl) (by rw [hF]; kernel_rfl) (by rw [hF]; kernel_rfl)
    · exact RegT.doesT_val (by decide) hJ (ev_assign rfl) (by rw [hF]; kernel_rfl) (by rw [hF]; kernel_rfl)
    · exact RegT.doesT_val (by decide) hJ (ev_assign rfl) (by rw [hF]; kernel_rfl) (by rw [hF]; kernel_rfl)
  · intro w' hJ
    simp only [Reg.putAll, Act.put, List.setIfInBounds_toArray, List.set_cons_zero, List.set_cons_succ]
    obtain ⟨k', o', s'⟩ := hJ.two rfl
    have n0 := hJ.nx.cell0
    have nl0 := hJ.nx.lt
    have HJ := Lib.hid hJ
    clear hJ k' o' s'
    go_wp2_with fail
    refine (mayTake_c x.op A T c ts w' Hlen.out (Hlen.out.trans HT.out.symm) (HJ.out.two rfl).2.2).mono ?_
    rintro e w1 ⟨rfl, hb1⟩
    rw [HM.out]
    have J1 : VlJ b B x v u v' ks rest ts A w true w1 := HJ.out.after (by have := HJ.out.size; omega) hb1
    clear hb1 HJ n0 nl0
    cases M
    · obtain ⟨rfl, rfl⟩ : r1 = nl ∧ r2 = 30 := by have := HE.out; simpa using this
      have br := J1.bx
      have g0 := br.cell0
      have g1 := br.cell1
      have g2 := br.cell2
      have f0 := br.frozen 0
      have f1 := br.frozen 1
      have f2 := br.frozen 2
      have He := Lib.hid (vl_end (r := nl) (er := 30) hB hlt J1.below br (J1.two rfl).1 (J1.two rfl).2.1 Hv.out)
      clear J1
      go_wp2
      exact ret_valX (a := nl) (z := .int .i64 30) Tryz.results27 rfl rfl He.out.2 rfl He.out.1
    · have n0 := J1.nx.cell0
      have nl0 := J1.nx.lt
      have HJ1 := Lib.hid J1
      clear J1
      go_wp2_with fail
      refine (comp_c x.op ts A T c w1 (Hops.out (by trivial)) Hlen.out (Hlen.out.trans HT.out.symm) (HJ1.out.two rfl).2.2).mono ?_
      rintro e w2 ⟨rfl, hb2⟩
      rw [HC.out]
      have J2 : VlJ b B x v u v' ks rest ts A w true w2 := HJ1.out.after (by have := HJ1.out.size; omega) hb2
      have l2 := J2.bx.lt
      have g0 := J2.bx.cell0
      have g1 := J2.bx.cell1
      have g2 := J2.bx.cell2
      have f0 := J2.bx.frozen 0
      have f1 := J2.bx.frozen 1
      have f2 := J2.bx.frozen 2
      have hsz : B ≤ w2.heap.size := by have := J2.size; omega
      clear hb2 HJ1 n0 nl0
      cases C2
      · obtain ⟨rfl, rfl⟩ : r1 = nl ∧ r2 = 31 := by have := HE.out; simpa using this
        have He := Lib.hid (vl_end (r := nl) (er := 31) hB hlt J2.below J2.bx (J2.two rfl).1 (J2.two rfl).2.1 Hv.out)
        clear J2
        go_wp2
        exact ret_valX (a := nl) (z := .int .i64 31) Tryz.results27 rfl rfl (He.out.2.alloc _) rfl (He.out.1.alloc (by rw [put3_size]; exact hsz) _)
      · obtain ⟨rfl, rfl⟩ : r1 = C1 ∧ r2 = 0 := by have := HE.out; simpa using this
        have He := Lib.hid (vl_end (r := r1) (er := 0) hB hlt J2.below J2.bx (J2.two rfl).1 (J2.two rfl).2.1 Hv.out)
        clear J2
        go_wp2
        exact ret_valX (a := r1) (z := .int .i64 0) Tryz.results27 rfl rfl (He.out.2.alloc _) rfl (He.out.1.alloc (by rw [put3_size]; exact hsz) _)
theorem vleaves_c (b B : Nat) (x : Nd) (v : Value) (A : Option Addr) (m c : Nat) (row ks : List Val) (w : World) (hk : Vx w b v (.slice A m c)) (ho : OwnV w B v ks) (hB : B ≤ b) (hl : row.length = m) (hs : Sl w A row) (hmax : ks.length ≤ 1000) (hz : x.v.s.size ≤ maxLen) :
    Calls Tryz.prog 27 #[.pointer (some ⟨b, 0, none⟩), x.w] w (VlPost b (.slice A m c) B (lvV row ks x) w) := by
  unfold lvV
  cases h0 : x.op == 0
  · cases h1 : x.op == 1
    · rw [if_neg Bool.false_ne_true, if_neg Bool.false_ne_true]
      by_cases hf : ks.length < takes x.op
      · rw [if_pos hf]
        exact vleaves_few b B x v _ ks w hk ho hB h0 h1 hf
      · rw [if_neg hf]
        exact vleaves_op b B x v _ ks w hk ho hB hmax h0 h1 (by omega)
    · rw [if_neg Bool.false_ne_true, if_pos rfl]
      exact vleaves_const b B x v _ ks w hk ho hB hz h0 h1
  · rw [if_pos rfl]
    exact vleaves_col b B x v A m c row ks w hk ho hB hl hs h0

/-- What a step makes of the stack of values. -/
def stepV (row ks : List Val) (x : Nd) : Sum Int (List Val) := if (lvV row ks x).2.1 == 0 then .inr ((lvV row ks x).2.2 ++ [(lvV row ks x).1]) else .inl (lvV row ks x).2.1
theorem lvV_len (row ks : List Val) (x : Nd) : (lvV row ks x).2.2.length ≤ ks.length := by
  unfold lvV
  split
  · exact Nat.le_refl _
  · split
    · exact Nat.le_refl _
    · split
      · exact Nat.le_refl _
      · simp
theorem stepV_len {row ks r : List Val} {x : Nd} (h : stepV row ks x = .inr r) : r.length ≤ ks.length + 1 := by
  unfold stepV at h
  split at h
  · cases h
    have := lvV_len row ks x
    simp; omega
  · cases h
/-- What step answers. -/
def SvPost (b : Nat) (u : Value) (B : Nat) (r : Sum Int (List Val)) (w : World) (e : Ending) (w' : World) : Prop :=
  Below B w w' ∧ match r with
    | .inl er => e = .returned (.int .i64 er) ∧ (er != 0) = true
    | .inr ks => e = .returned (.int .i64 0) ∧ ∃ v', Vx w' b v' u ∧ OwnV w' B v' ks
/-- The two phases of the statement that pushes. -/
structure PuJ (b B g : Nat) (x : Val) (u : Value) (rest ks : List Val) (v : Value) (w0 : World) (ph : Bool) (w : World) : Prop where
  below : Below B w0 w
  size : g < w.heap.size
  bx : Bx w g x
  one : ph = false → Vx w b v u ∧ OwnV w B v rest
  two : ph = true → ∃ v', Vx w b v' u ∧ OwnV w B v' ks
theorem PuJ.after {b B g : Nat} {x : Val} {u v : Value} {rest ks : List Val} {w0 : World} {ph : Bool} {w w' : World} (h : PuJ b B g x u rest ks v w0 ph w) (hB : B ≤ w.heap.size) (hb : Below w.heap.size w w') : PuJ b B g x u rest ks v w0 ph w' :=
  ⟨h.below.trans (hb.mono hB), Nat.lt_of_lt_of_le h.size hb.size, h.bx.after hb, fun e => ⟨(h.one e).1.after hb, (h.one e).2.after hb⟩, fun e => ⟨(h.two e).choose, (h.two e).choose_spec.1.after hb, (h.two e).choose_spec.2.after hb⟩⟩
set_option maxHeartbeats 4000000 in
theorem vstep_c (b B : Nat) (x : Nd) (v : Value) (A : Option Addr) (m c : Nat) (row ks : List Val) (w : World) (hk : Vx w b v (.slice A m c)) (ho : OwnV w B v ks) (hB : B ≤ b) (hl : row.length = m) (hs : Sl w A row) (hmax : ks.length ≤ 900) (hz : x.v.s.size ≤ maxLen) :
    Calls Tryz.prog 16 #[.pointer (some ⟨b, 0, none⟩), x.w] w (SvPost b (.slice A m c) B (stepV row ks x) w) := by
  have hlt := hk.lt
  have Hlen := Lib.hid (lvV_len row ks x)
  have Hlv := Lib.hid (fun (w1 : World) (k1 : Vx w1 b v (.slice A m c)) (o1 : OwnV w1 B v ks) (s1 : Sl w1 A row) => vleaves_c b B x v A m c row ks w1 k1 o1 hB hl s1 (by omega) hz)
  unfold stepV
  obtain ⟨⟨lv, er, rest⟩, hr⟩ : ∃ r, lvV row ks x = r := ⟨_, rfl⟩
  rw [hr] at Hlen Hlv ⊢
  obtain ⟨R, hR⟩ : ∃ R : Sum Int (List Val), (if (er == 0) = true then .inr (rest ++ [lv]) else .inl er) = R := ⟨_, rfl⟩
  have HR := Lib.hid hR
  show Calls _ _ _ _ (SvPost b (.slice A m c) B (if (er == 0) = true then .inr (rest ++ [lv]) else .inl er) w)
  rw [hR]
  clear hR
  have Hk := Lib.hid hk
  have Ho := Lib.hid ho
  have Hs := Lib.hid hs
  clear hk ho hs hr hl hz
  go_enter Tryz.func16, Tryz.ntmps16
  go_wp2_with fail
  refine (Hlv.out _ (Hk.out.alloc _) (Ho.out.alloc _) (Hs.out.alloc _)).mono ?_
  rintro e w1 ⟨rfl, hb1, v1, k1, o1⟩
  have hbw : Below B w w1 := ((Below.refl B w).alloc (by omega) _).trans hb1
  have hs1 : B ≤ w1.heap.size := by have := hbw.size; omega
  have l1 := k1.lt
  have Hbw := Lib.hid (hbw.alloc hs1 (.cells #[.int .i64 lv.k, .int .i64 lv.n, .string lv.s] 31))
  have Hk1 := Lib.hid (k1.alloc (.cells #[.int .i64 lv.k, .int .i64 lv.n, .string lv.s] 31))
  have Ho1 := Lib.hid (o1.alloc (.cells #[.int .i64 lv.k, .int .i64 lv.n, .string lv.s] 31))
  have Hown := Lib.hid (show ∀ k, v1.ownBlock = some k → k < w1.heap.size from fun k hk => (o1.lt k hk).2)
  clear hb1 hbw k1 o1
  cases hz : er == 0
  · obtain rfl : Sum.inl er = R := by have := HR.out; rw [hz] at this; simpa using this
    have hz' : (er != 0) = true := by rw [bne, hz]; rfl
    go_wp2
    go_ret
    exact ⟨Hbw.out, rfl, hz'⟩
  · obtain rfl : Sum.inr (rest ++ [lv]) = R := by have := HR.out; rw [hz] at this; simpa using this
    obtain rfl : er = 0 := by simpa using hz
    clear hz
    go_wp2_with fail
    refine RegT.wp_region_two mixed (by kernel_rfl) (PuJ b B w1.heap.size lv (.slice A m c) rest (rest ++ [lv]) v1 w) 4 (of_decide_eq_true (by kernel_rfl)) ⟨⟨Hbw.out.os, Hbw.out.tape, Hbw.out.output, Hbw.out.size, Hbw.out.block⟩, by show _ < (w1.heap.push _).size; simp, Bx.new w1 lv, fun _ => ⟨Hk1.out, Ho1.out⟩, fun e => by cases e⟩
      [(15, .pointer (some ⟨b, 0, none⟩)), (16, .pointer (some ⟨b, 0, none⟩)), (17, .pointer (some ⟨b, 0, none⟩)), (18, lv.v), (19, .tuple #[])] 21 rfl (by kernel_rfl) ?_ ?_
    · intro F hF w' ph hJ
      refine ⟨fun _ => ?_, fun _ => ?_, fun _ => ?_, fun _ => ?_, fun hph => ?_, trivial⟩
      · exact RegT.doesT_val (by decide) hJ (ev_move rfl) (by rw [hF]; kernel_rfl) (by rw [hF]; kernel_rfl)
      · exact RegT.doesT_val (by decide) hJ (ev_nc (a := ⟨b, 0, none⟩) rfl (by rw [hF]; kernel_rfl)) (by rw [hF]; kernel_rfl) (by rw [hF]; kernel_rfl)
      · exact RegT.doesT_val (by decide) hJ (ev_fa rfl (by rw [hF]; kernel_rfl) (fa_vals0 w' b)) (by rw [hF]; kernel_rfl) (by rw [hF]; kernel_rfl)
      · exact RegT.doesT_val (by decide) hJ (ev_load hJ.bx rfl (by rw [hF]; kernel_rfl)) (by rw [hF]; kernel_rfl) (by rw [hF]; kernel_rfl)
      · obtain ⟨k', o'⟩ := hJ.one (hph rfl)
        refine RegT.doesT_main (v := .tuple #[]) ((push_cV b lv v1 _ rest B w' k' o' hB (by have : rest.length ≤ ks.length := Hlen.out; omega)).mono ?_) (ev_call enPushV rfl (by rw [hF]; kernel_rfl)) (by rw [hF]; kernel_rfl) (by rw [hF]; kernel_rfl)
        rintro e w2 ⟨he, hb2, hsm, v2, k2, o2⟩
        exact ⟨he, hJ.below.trans hb2, Nat.lt_of_lt_of_le hJ.size hb2.size, (hsm _ hJ.size (by omega) (fun e => by have := Hown.out _ e; omega)).trans hJ.bx, (fun e => by cases e), fun _ => ⟨v2, k2, o2⟩⟩
    · intro w' hJ
      simp only [Reg.putAll, Act.put, List.setIfInBounds_toArray, List.set_cons_zero, List.set_cons_succ]
      have HJ := Lib.hid hJ
      clear hJ
      go_wp2
      go_ret
      exact ⟨HJ.out.below, rfl, HJ.out.two rfl⟩
end Go.Proofs.YticofedglhfdpaaGreatDoor
