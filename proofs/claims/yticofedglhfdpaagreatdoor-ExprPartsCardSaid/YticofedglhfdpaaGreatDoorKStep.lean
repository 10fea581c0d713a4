/-
  What a step of an expression does to the stack of kinds: leaves and step, of any step and any stack that is the call's own.
-/
import Derived.Test.YticofedglhfdpaaGreatDoorKinds
namespace Go.Proofs.YticofedglhfdpaaGreatDoor
open Go Go.RowKit
set_option maxRecDepth 100000

/-- What a step leaves: the kind, whether it can be done, and what stays on the stack. -/
def lvK (cols ks : List Int) (x : Nd) : Int × Bool × List Int :=
  if x.op == 0 then ((colR cols x.n).1, (colR cols x.n).2, ks) else if x.op == 1 then (x.v.k, mayB x.v, ks)
  else if ks.length < takes x.op then (0, false, ks) else ((kindR x.op (ks.drop (ks.length - takes x.op))).1, (kindR x.op (ks.drop (ks.length - takes x.op))).2, ks.take (ks.length - takes x.op))
def LvPost (b : Nat) (u : Value) (B : Nat) (r : Int × Bool × List Int) (w : World) (e : Ending) (w' : World) : Prop :=
  e = .returned (.tuple #[.int .i64 r.1, .bool r.2.1]) ∧ Below B w w' ∧ ∃ v', Kx w' b v' u ∧ OwnI w' B v' r.2.2
theorem enMay : ∀ args w, (callFunc 53 args).run Tryz.prog w = .ok (.enter 53 args) w := fun _ _ => by kernel_rfl
theorem enOperands : ∀ args w, (callFunc 47 args).run Tryz.prog w = .ok (.enter 47 args) w := fun _ _ => by kernel_rfl
theorem enPopI : ∀ args w, (callFunc 54 args).run Tryz.prog w = .ok (.enter 54 args) w := fun _ _ => by kernel_rfl

set_option maxHeartbeats 1000000 in
theorem leaves_col (b B : Nat) (x : Nd) (v : Value) (A : Option Addr) (m c : Nat) (cols ks : List Int) (w : World) (hk : Kx w b v (.slice A m c)) (ho : OwnI w B v ks) (hB : B ≤ b) (hl : cols.length = m) (hs : SlI w A cols) (hop : (x.op == 0) = true) :
    Calls Tryz.prog 37 #[.pointer (some ⟨b, 0, none⟩), x.w] w (LvPost b (.slice A m c) B ((colR cols x.n).1, (colR cols x.n).2, ks) w) := by
  have hlt := hk.lt
  have Hk := Lib.hid hk
  have Ho := Lib.hid ho
  have Hs := Lib.hid hs
  have Hl := Lib.hid hl
  clear hk ho hs hl
  obtain ⟨r1, r2, hr⟩ : ∃ r1 r2, colR cols x.n = (r1, r2) := ⟨_, _, rfl⟩
  rw [hr]
  have Hr := Lib.hid hr
  clear hr
  go_enter Tryz.func37, Tryz.ntmps37
  go_wp2_with fail
  refine (column_c b x.n m c A cols v _ (Hk.out.alloc _) Hl.out (Hs.out.alloc _)).mono ?_
  rintro e w1 ⟨rfl, rfl⟩
  rw [Hr.out]
  go_wp2
  go_ret2
  exact ⟨rfl, (Below.refl B w).alloc (by omega) _, v, Hk.out.alloc _, Ho.out.alloc _⟩

set_option maxHeartbeats 1000000 in
theorem leaves_const (b B : Nat) (x : Nd) (v u : Value) (ks : List Int) (w : World) (hk : Kx w b v u) (ho : OwnI w B v ks) (hB : B ≤ b) (hz : x.v.s.size ≤ maxLen) (h0 : (x.op == 0) = false) (hop : (x.op == 1) = true) :
    Calls Tryz.prog 37 #[.pointer (some ⟨b, 0, none⟩), x.w] w (LvPost b u B (x.v.k, mayB x.v, ks) w) := by
  have hlt := hk.lt
  have Hk := Lib.hid hk
  have Ho := Lib.hid ho
  have Hz := Lib.hid hz
  clear hk ho hz
  go_enter Tryz.func37, Tryz.ntmps37
  go_wp2_with fail
  have hn0 : Nx (w.alloc (.cells x.cells 36)) w.heap.size x := Nx.new w x
  refine Reg.wp_region_vals mixed (by kernel_rfl) [(20, .pointer (some ⟨w.heap.size, 2, none⟩)), (21, .pointer (some ⟨w.heap.size, 2, none⟩)), (22, .int .i64 x.v.k), (23, .pointer (some ⟨w.heap.size, 2, none⟩)), (24, x.v.v), (25, .bool (mayB x.v)), (4, .int .i64 x.v.k), (5, .bool (mayB x.v))] 44 rfl (by kernel_rfl) ?_ ?_
  · intro F hF w' hB'
    have hn : Nx w' w.heap.size x := hn0.after hB'
    refine ⟨?_, ?_, ?_, ?_, ?_, ?_, ?_, ?_, trivial⟩
    · exact Reg.doesV_val (ev_fa rfl (by rw [hF]; kernel_rfl) (fa_node2 w' w.heap.size)) (by rw [hF]; kernel_rfl) (by rw [hF]; kernel_rfl)
    · exact Reg.doesV_val (ev_fa rfl (by rw [hF]; kernel_rfl) (fa_val0 w' w.heap.size 2)) (by rw [hF]; kernel_rfl) (by rw [hF]; kernel_rfl)
    · exact Reg.doesV_val (ev_ld rfl (by rw [hF]; kernel_rfl) hn.ldK) (by rw [hF]; kernel_rfl) (by rw [hF]; kernel_rfl)
    · exact Reg.doesV_val (ev_fa rfl (by rw [hF]; kernel_rfl) (fa_node2 w' w.heap.size)) (by rw [hF]; kernel_rfl) (by rw [hF]; kernel_rfl)
    · exact Reg.doesV_val (ev_ld rfl (by rw [hF]; kernel_rfl) hn.ldV) (by rw [hF]; kernel_rfl) (by rw [hF]; kernel_rfl)
    · exact Reg.doesV_call (may_c x.v w' Hz.out) (ev_call enMay rfl (by rw [hF]; kernel_rfl)) (by rw [hF]; kernel_rfl) (by rw [hF]; kernel_rfl)
    · exact Reg.doesV_val (ev_assign rfl) (by rw [hF]; kernel_rfl) (by rw [hF]; kernel_rfl)
    · exact Reg.doesV_val (ev_assign rfl) (by rw [hF]; kernel_rfl) (by rw [hF]; kernel_rfl)
  · intro w' hB'
    simp only [Reg.putAll, Act.put, List.setIfInBounds_toArray, List.set_cons_zero, List.set_cons_succ]
    have hbw : Below w.heap.size w w' := (below_one _ _).trans (hB'.mono (by simp))
    go_wp2
    go_ret2
    exact ⟨rfl, hbw.mono (by omega), v, Hk.out.after hbw, Ho.out.after hbw⟩

set_option maxHeartbeats 1000000 in
theorem leaves_few (b B : Nat) (x : Nd) (v u : Value) (ks : List Int) (w : World) (hk : Kx w b v u) (ho : OwnI w B v ks) (hB : B ≤ b) (h0 : (x.op == 0) = false) (h1 : (x.op == 1) = false) (hl : ks.length < takes x.op) :
    Calls Tryz.prog 37 #[.pointer (some ⟨b, 0, none⟩), x.w] w (LvPost b u B (0, false, ks) w) := by
  have hlt := hk.lt
  have Hk := Lib.hid hk
  have Ho := Lib.hid ho
  have Hl := Lib.hid hl
  clear hk ho hl
  obtain ⟨T, hT⟩ : ∃ T, takes x.op = T := ⟨_, rfl⟩
  have HT := Lib.hid hT
  clear hT
  go_enter Tryz.func37, Tryz.ntmps37
  go_wp2_with fail
  have hn0 : Nx (w.alloc (.cells x.cells 36)) w.heap.size x := Nx.new w x
  refine Reg.wp_region_vals mixed (by kernel_rfl) [(27, .pointer (some ⟨b, 0, none⟩)), (28, .pointer (some ⟨b, 0, none⟩)), (29, .pointer (some ⟨b, 0, none⟩)), (30, .pointer (some ⟨w.heap.size, 0, none⟩)), (31, .int .i64 x.op), (32, .int .i64 T), (33, .tuple #[.slice none 0 0, .bool false]), (26, .tuple #[.slice none 0 0, .bool false]), (34, .slice none 0 0), (35, .bool false), (6, .slice none 0 0), (7, .bool false)] 44 rfl (by kernel_rfl) ?_ ?_
  · intro F hF w' hB'
    have hn : Nx w' w.heap.size x := hn0.after hB'
    have hk' : Kx w' b v u := (Hk.out.alloc _).after hB'
    have ho' : OwnI w' B v ks := (Ho.out.alloc _).after hB'
    refine ⟨?_, ?_, ?_, ?_, ?_, ?_, ?_, ?_, ?_, ?_, ?_, ?_, trivial⟩
    · exact Reg.doesV_val (ev_move rfl) (by rw [hF]; kernel_rfl) (by rw [hF]; kernel_rfl)
    · exact Reg.doesV_val (ev_nc (a := ⟨b, 0, none⟩) rfl (by rw [hF]; kernel_rfl)) (by rw [hF]; kernel_rfl) (by rw [hF]; kernel_rfl)
    · exact Reg.doesV_val (ev_fa rfl (by rw [hF]; kernel_rfl) (fa_kinds0 w' b)) (by rw [hF]; kernel_rfl) (by rw [hF]; kernel_rfl)
    · exact Reg.doesV_val (ev_fa rfl (by rw [hF]; kernel_rfl) (fa_node0 w' w.heap.size)) (by rw [hF]; kernel_rfl) (by rw [hF]; kernel_rfl)
    · exact Reg.doesV_val (ev_ld rfl (by rw [hF]; kernel_rfl) hn.ldO) (by rw [hF]; kernel_rfl) (by rw [hF]; kernel_rfl)
    · exact Reg.doesV_call (by have h := operands_c x.op w'; rw [HT.out] at h; exact h.mono (fun e w2 hh => ⟨hh.1, hh.2 ▸ Below.refl _ _⟩)) (ev_call enOperands rfl (by rw [hF]; kernel_rfl)) (by rw [hF]; kernel_rfl) (by rw [hF]; kernel_rfl)
    · exact Reg.doesV_call ((pop_few b T v u ks B w' hk' ho' (by rw [← HT.out]; exact takes_le _) (by rw [← HT.out]; exact Hl.out)).mono (fun e w2 hh => ⟨hh.1, hh.2 ▸ Below.refl _ _⟩)) (ev_call enPopI rfl (by rw [hF]; kernel_rfl)) (by rw [hF]; kernel_rfl) (by rw [hF]; kernel_rfl)
    · exact Reg.doesV_val (ev_move rfl) (by rw [hF]; kernel_rfl) (by rw [hF]; kernel_rfl)
    · exact Reg.doesV_val (ev_extract (vs := #[.slice none 0 0, .bool false]) rfl (by rw [hF]; kernel_rfl) rfl) (by rw [hF]; kernel_rfl) (by rw [hF]; kernel_rfl)
    · exact Reg.doesV_val (ev_extract (vs := #[.slice none 0 0, .bool false]) rfl (by rw [hF]; kernel_rfl) rfl) (by rw [hF]; kernel_rfl) (by rw [hF]; kernel_rfl)
    · exact Reg.doesV_val (ev_assign rfl) (by rw [hF]; kernel_rfl) (by rw [hF]; kernel_rfl)
    · exact Reg.doesV_val (ev_assign rfl) (by rw [hF]; kernel_rfl) (by rw [hF]; kernel_rfl)
  · intro w' hB'
    simp only [Reg.putAll, Act.put, List.setIfInBounds_toArray, List.set_cons_zero, List.set_cons_succ]
    have hbw : Below w.heap.size w w' := (below_one _ _).trans (hB'.mono (by simp))
    go_wp2
    go_ret2
    exact ⟨rfl, hbw.mono (by omega), v, Hk.out.after hbw, Ho.out.after hbw⟩

/-- The two phases of the step that takes its operands. -/
structure LvJ (b B : Nat) (x : Nd) (v u v' : Value) (ks rest ts : List Int) (A : Option Addr) (w0 : World) (ph : Bool) (w : World) : Prop where
  below : Below B w0 w
  nx : Nx w w0.heap.size x
  one : ph = false → Kx w b v u ∧ OwnI w B v ks
  two : ph = true → Kx w b v' u ∧ OwnI w B v' rest ∧ SlI w A ts
theorem LvJ.after {b B : Nat} {x : Nd} {v u v' : Value} {ks rest ts : List Int} {A : Option Addr} {w0 : World} {ph : Bool} {w w' : World} (h : LvJ b B x v u v' ks rest ts A w0 ph w) (hB : B ≤ w.heap.size) (hb : Below w.heap.size w w') : LvJ b B x v u v' ks rest ts A w0 ph w' :=
  ⟨h.below.trans (hb.mono hB), h.nx.after hb, fun e => ⟨(h.one e).1.after hb, (h.one e).2.after hb⟩, fun e => ⟨(h.two e).1.after hb, (h.two e).2.1.after hb, (h.two e).2.2.after hb⟩⟩

set_option maxHeartbeats 1000000 in
theorem leaves_op (b B : Nat) (x : Nd) (v u : Value) (ks : List Int) (w : World) (hk : Kx w b v u) (ho : OwnI w B v ks) (hB : B ≤ b) (hmax : ks.length ≤ 1000) (h0 : (x.op == 0) = false) (h1 : (x.op == 1) = false) (hl : takes x.op ≤ ks.length) :
    Calls Tryz.prog 37 #[.pointer (some ⟨b, 0, none⟩), x.w] w (LvPost b u B ((kindR x.op (ks.drop (ks.length - takes x.op))).1, (kindR x.op (ks.drop (ks.length - takes x.op))).2, ks.take (ks.length - takes x.op)) w) := by
  have hlt := hk.lt
  have Hk := Lib.hid hk
  have Ho := Lib.hid ho
  obtain ⟨T, hT⟩ : ∃ T, takes x.op = T := ⟨_, rfl⟩
  have hT2 : T ≤ 2 := by rw [← hT]; exact takes_le _
  rw [hT] at hl ⊢
  obtain ⟨A, c, v', hpop⟩ := pop_det T v ks w B ho hT2 hl hmax
  obtain ⟨ts, hts⟩ : ∃ ts, ks.drop (ks.length - T) = ts := ⟨_, rfl⟩
  obtain ⟨rest, hrest⟩ : ∃ rest, ks.take (ks.length - T) = rest := ⟨_, rfl⟩
  have hlen : ts.length = T := by rw [← hts, List.length_drop]; omega
  obtain ⟨r1, r2, hr⟩ : ∃ r1 r2, kindR x.op ts = (r1, r2) := ⟨_, _, rfl⟩
  rw [hts, hrest, hr]
  have HT := Lib.hid hT
  have Hpop := Lib.hid hpop
  have Hts := Lib.hid hts
  have Hrest := Lib.hid hrest
  have Hr := Lib.hid hr
  have Hlen := Lib.hid hlen
  clear hk ho hT hpop hts hrest hr hlen hl hmax hT2
  go_enter Tryz.func37, Tryz.ntmps37
  go_wp2_with fail
  have hn0 : Nx (w.alloc (.cells x.cells 36)) w.heap.size x := Nx.new w x
  have hbb : Below B w (w.alloc (.cells x.cells 36)) := (Below.refl B w).alloc (by omega) _
  refine RegT.wp_region_two mixed (by kernel_rfl) (LvJ b B x v u v' ks rest ts A w) 6 (of_decide_eq_true (by kernel_rfl)) ⟨⟨hbb.os, hbb.tape, hbb.output, hbb.size, hbb.block⟩, hn0, fun _ => ⟨Hk.out.alloc _, Ho.out.alloc _⟩, fun e => by cases e⟩
    [(27, .pointer (some ⟨b, 0, none⟩)), (28, .pointer (some ⟨b, 0, none⟩)), (29, .pointer (some ⟨b, 0, none⟩)), (30, .pointer (some ⟨w.heap.size, 0, none⟩)), (31, .int .i64 x.op), (32, .int .i64 T), (33, .tuple #[.slice A T c, .bool true]), (26, .tuple #[.slice A T c, .bool true]), (34, .slice A T c), (35, .bool true), (6, .slice A T c), (7, .bool true)] 44 rfl (by kernel_rfl) ?_ ?_
  · intro F hF w' ph hJ
    have hn := hJ.nx
    have hsz : B ≤ w'.heap.size := by have := hJ.below.size; omega
    refine ⟨fun _ => ?_, fun _ => ?_, fun _ => ?_, fun _ => ?_, fun _ => ?_, fun _ => ?_, fun hph => ?_, fun _ => ?_, fun _ => ?_, fun _ => ?_, fun _ => ?_, fun _ => ?_, trivial⟩
    · exact RegT.doesT_val (by decide) hJ (ev_move rfl) (by rw [hF]; kernel_rfl) (by rw [hF]; kernel_rfl)
    · exact RegT.doesT_val (by decide) hJ (ev_nc (a := ⟨b, 0, none⟩) rfl (by rw [hF]; kernel_rfl)) (by rw [hF]; kernel_rfl) (by rw [hF]; kernel_rfl)
    · exact RegT.doesT_val (by decide) hJ (ev_fa rfl (by rw [hF]; kernel_rfl) (fa_kinds0 w' b)) (by rw [hF]; kernel_rfl) (by rw [hF]; kernel_rfl)
    · exact RegT.doesT_val (by decide) hJ (ev_fa rfl (by rw [hF]; kernel_rfl) (fa_node0 w' w.heap.size)) (by rw [hF]; kernel_rfl) (by rw [hF]; kernel_rfl)
    · exact RegT.doesT_val (by decide) hJ (ev_ld rfl (by rw [hF]; kernel_rfl) hn.ldO) (by rw [hF]; kernel_rfl) (by rw [hF]; kernel_rfl)
    · exact RegT.doesT_call (by decide) (fun w'' hb => hJ.after hsz hb) (by have h := operands_c x.op w'; rw [HT.out] at h; exact h.mono (fun e w2 hh => ⟨hh.1, hh.2 ▸ Below.refl _ _⟩)) (ev_call enOperands rfl (by rw [hF]; kernel_rfl)) (by rw [hF]; kernel_rfl) (by rw [hF]; kernel_rfl)
    · obtain ⟨k', o'⟩ := hJ.one (hph rfl)
      refine RegT.doesT_main (v := .tuple #[.slice A T c, .bool true]) ((Hpop.out b u B w' k' o').mono ?_) (ev_call enPopI rfl (by rw [hF]; kernel_rfl)) (by rw [hF]; kernel_rfl) (by rw [hF]; kernel_rfl)
      rintro e w2 ⟨he, rfl, p1, p2, p3⟩
      rw [Hrest.out] at p1
      rw [Hts.out] at p2
      exact ⟨he, hJ.below.setCell hB _, hn.set k', (fun e => by cases e), fun _ => ⟨k'.set v', p1.set k', p2.set p3⟩⟩
    · exact RegT.doesT_val (by decide) hJ (ev_move rfl) (by rw [hF]; kernel_rfl) (by rw [hF]; kernel_rfl)
    · exact RegT.doesT_val (by decide) hJ (ev_extract (vs := #[.slice A T c, .bool true]) rfl (by rw [hF]; kernel_rfl) rfl) (by rw [hF]; kernel_rfl) (by rw [hF]; kernel_rfl)
    · exact RegT.doesT_val (by decide) hJ (ev_extract (vs := #[.slice A T c, .bool true]) rfl (by rw [hF]; kernel_rfl) rfl) (by rw [hF]; kernel_rfl) (by rw [hF]; kernel_rfl)
    · exact RegT.doesT_val (by decide) hJ (ev_assign rfl) (by rw [hF]; kernel_rfl) (by rw [hF]; kernel_rfl)
    · exact RegT.doesT_val (by decide) hJ (ev_assign rfl) (by rw [hF]; kernel_rfl) (by rw [hF]; kernel_rfl)
  · intro w' hJ
    simp only [Reg.putAll, Act.put, List.setIfInBounds_toArray, List.set_cons_zero, List.set_cons_succ]
    obtain ⟨k', o', s'⟩ := hJ.two rfl
    have n0 := hJ.nx.cell0
    have nl0 := hJ.nx.lt
    have HJ := Lib.hid hJ
    have Hk' := Lib.hid k'
    have Ho' := Lib.hid o'
    have Hs' := Lib.hid s'
    clear hJ k' o' s'
    go_wp2_with fail
    refine (kindOf_c x.op A T c ts w' Hlen.out (Hlen.out.trans HT.out.symm) Hs'.out).mono ?_
    rintro e w1 ⟨rfl, rfl⟩
    rw [Hr.out]
    go_wp2
    go_ret2
    exact ⟨rfl, HJ.out.below, v', Hk'.out, Ho'.out⟩
theorem leaves_c (b B : Nat) (x : Nd) (v : Value) (A : Option Addr) (m c : Nat) (cols ks : List Int) (w : World) (hk : Kx w b v (.slice A m c)) (ho : OwnI w B v ks) (hB : B ≤ b) (hl : cols.length = m) (hs : SlI w A cols) (hmax : ks.length ≤ 1000) (hz : x.v.s.size ≤ maxLen) :
    Calls Tryz.prog 37 #[.pointer (some ⟨b, 0, none⟩), x.w] w (LvPost b (.slice A m c) B (lvK cols ks x) w) := by
  unfold lvK
  cases h0 : x.op == 0
  · cases h1 : x.op == 1
    · rw [if_neg Bool.false_ne_true, if_neg Bool.false_ne_true]
      by_cases hf : ks.length < takes x.op
      · rw [if_pos hf]
        exact leaves_few b B x v _ ks w hk ho hB h0 h1 hf
      · rw [if_neg hf]
        exact leaves_op b B x v _ ks w hk ho hB hmax h0 h1 (by omega)
    · rw [if_neg Bool.false_ne_true, if_pos rfl]
      exact leaves_const b B x v _ ks w hk ho hB hz h0 h1
  · rw [if_pos rfl]
    exact leaves_col b B x v A m c cols ks w hk ho hB hl hs h0

/-- What a step makes of the stack of kinds. -/
def stepK (cols ks : List Int) (x : Nd) : Option (List Int) := if (lvK cols ks x).2.1 then some ((lvK cols ks x).2.2 ++ [(lvK cols ks x).1]) else none
theorem lvK_len (cols ks : List Int) (x : Nd) : (lvK cols ks x).2.2.length ≤ ks.length := by
  unfold lvK
  split
  · exact Nat.le_refl _
  · split
    · exact Nat.le_refl _
    · split
      · exact Nat.le_refl _
      · simp
theorem stepK_len {cols ks r : List Int} {x : Nd} (h : stepK cols ks x = some r) : r.length ≤ ks.length + 1 := by
  unfold stepK at h
  split at h
  · cases h
    have := lvK_len cols ks x
    simp; omega
  · cases h
/-- What step answers. -/
def StPost (b : Nat) (u : Value) (B : Nat) (r : Option (List Int)) (w : World) (e : Ending) (w' : World) : Prop :=
  Below B w w' ∧ match r with
    | none => e = .returned (.int .i64 30)
    | some ks => e = .returned (.int .i64 0) ∧ ∃ v', Kx w' b v' u ∧ OwnI w' B v' ks
set_option maxHeartbeats 1000000 in
theorem kstep_c (b B : Nat) (x : Nd) (v : Value) (A : Option Addr) (m c : Nat) (cols ks : List Int) (w : World) (hk : Kx w b v (.slice A m c)) (ho : OwnI w B v ks) (hB : B ≤ b) (hl : cols.length = m) (hs : SlI w A cols) (hmax : ks.length ≤ 900) (hz : x.v.s.size ≤ maxLen) :
    Calls Tryz.prog 22 #[.pointer (some ⟨b, 0, none⟩), x.w] w (StPost b (.slice A m c) B (stepK cols ks x) w) := by
  have hlt := hk.lt
  have Hlen := Lib.hid (lvK_len cols ks x)
  have Hlv := Lib.hid (fun (w1 : World) (k1 : Kx w1 b v (.slice A m c)) (o1 : OwnI w1 B v ks) (s1 : SlI w1 A cols) => leaves_c b B x v A m c cols ks w1 k1 o1 hB hl s1 (by omega) hz)
  unfold stepK
  obtain ⟨⟨kd, ok, rest⟩, hr⟩ : ∃ r, lvK cols ks x = r := ⟨_, rfl⟩
  rw [hr] at Hlen Hlv ⊢
  obtain ⟨R, hR⟩ : ∃ R, (if ok = true then some (rest ++ [kd]) else none) = R := ⟨_, rfl⟩
  have HR := Lib.hid hR
  show Calls _ _ _ _ (StPost b (.slice A m c) B (if ok = true then some (rest ++ [kd]) else none) w)
  rw [hR]
  clear hR
  have Hk := Lib.hid hk
  have Ho := Lib.hid ho
  have Hs := Lib.hid hs
  clear hk ho hs hr hl hz
  go_enter Tryz.func22, Tryz.ntmps22
  go_wp2_with fail
  refine (Hlv.out _ (Hk.out.alloc _) (Ho.out.alloc _) (Hs.out.alloc _)).mono ?_
  rintro e w1 ⟨rfl, hb1, v1, k1, o1⟩
  have hbw : Below B w w1 := ((Below.refl B w).alloc (by omega) _).trans hb1
  have Hbw := Lib.hid hbw
  have Hk1 := Lib.hid k1
  have Ho1 := Lib.hid o1
  clear hb1 hbw k1 o1
  cases ok
  · obtain rfl : none = R := HR.out
    go_wp2
    go_ret
    exact ⟨Hbw.out, rfl⟩
  · go_wp2_with fail
    refine (push_c b kd v1 _ rest B w1 Hk1.out Ho1.out hB (by have : rest.length ≤ ks.length := Hlen.out; omega)).mono ?_
    rintro e w2 ⟨rfl, hb2, v2, k2, o2⟩
    have Hb2 := Lib.hid (Hbw.out.trans hb2)
    have Hk2 := Lib.hid k2
    have Ho2 := Lib.hid o2
    clear hb2 k2 o2
    obtain rfl : some (rest ++ [kd]) = R := HR.out
    go_wp2
    go_ret
    exact ⟨Hb2.out, rfl, v2, Hk2.out, Ho2.out⟩
end Go.Proofs.YticofedglhfdpaaGreatDoor
