/-
  Part 4 of 6 of what the proof leans on: each part below says what it proves, and of what; no condition besides.
-/
import Derived.Test.YtldaoepemofhlaaGreatDoorR01
import Derived.Test.YtldaoepemofhlaaGreatDoorR02
import Derived.Test.YtldaoepemofhlaaGreatDoorR03
import Derived.Deep.RegionHeld3
import Derived.Shelf.SlSortCmp.WholeK
import Derived.Shelf.SlSortCmp.NoneTotal
import Derived.Shelf.SlGeneric
import Derived.Ground.SlsfProg
import Derived.Test.YtldaoepemofhlaaGreatDoorProg
import Derived.Lib.SliceRun
import Derived.MapKept
import Derived.Maps.OwnOps
import Derived.Lib.LaidTab
import Derived.Laws.Concat
set_option linter.unusedVariables false
set_option linter.unusedSimpArgs false
namespace Go.Proofs.YtldaoepemofhlaaGreatDoor
open Go Go.RowKit
set_option maxRecDepth 100000
attribute [local go_sem ↓] Go.wp_at_zero Go.wp_at_succ
theorem qone_c (A : Option Addr) (n c : Nat) (N : Int) (w : World) :
 Calls Tryz.prog 49 #[.slice A n c, .int .i64 N] w fun e w' => e = .returned (.slice (some ⟨w.heap.size, 0, none⟩) 1 1) ∧ w' = w.alloc (.cells #[.slice A n c, .int .i64 N] 49) := by
 go_enter Tryz.func49, Tryz.ntmps49
 go_wp2
 go_ret
 exact ⟨rfl, rfl⟩
theorem bOkQ : ElOk Tryz.prog 80 30 1 24 (.slice none 0 0) rdBh where
 under := Tryz.underlying80
 info := by kernel_rfl
 zs := rfl
 pos := by decide
 len := fun _ => rfl
 one := fun x u hu => by
  simp [rdBh] at hu
  rcases hu with rfl; rfl
def Safe (w : World) (u : Option Nat) (p : Bh) : Prop := ∀ w' : World, w.grownBy w' u → Bh.In w' p
theorem Safe.in {w : World} {u : Option Nat} {p : Bh} (h : Safe w u p) : Bh.In w p := h w (World.grownBy.refl w u)
theorem grown_below {w w' w2 : World} {u : Option Nat} (hb : Below w.heap.size w w') (hg : w'.grownBy w2 u) : w.grownBy w2 u :=
 ⟨hg.os.trans hb.os, hg.tape.trans hb.tape, hg.output.trans hb.output, Nat.le_trans hb.size hg.size, fun k hk hne => (hg.block k (Nat.lt_of_lt_of_le hk hb.size) hne).trans (hb.block k hk)⟩
theorem Safe.after {w w' : World} {u : Option Nat} {p : Bh} (h : Safe w u p) (hb : Below w.heap.size w w') : Safe w' u p := fun w2 hg => h w2 (grown_below hb hg)
theorem Safe.app {X w2 : World} {u u2 : Option Nat} {p : Bh} (h : Safe X u p) (hg : X.grownBy w2 u) (hl : u2 = u ∨ u2 = some X.heap.size) : Safe w2 u2 p := fun w' h2 => h w' (by
 rcases hl with rfl | rfl
 · exact hg.trans h2
 · refine ⟨h2.os.trans hg.os, h2.tape.trans hg.tape, h2.output.trans hg.output, Nat.le_trans hg.size h2.size, fun k hk hne => ?_⟩
   rw [h2.block k (Nat.lt_of_lt_of_le hk hg.size) (by intro e; injection e with e; omega), hg.block k hk hne])
theorem Sl.sameAt {w w' : World} {A : Option Addr} {xs : List Val} (h : Sl w A xs) (hb : ∀ g o, A = some ⟨g, o, none⟩ → w'.heap[g]? = w.heap[g]?) (hs : w.heap.size ≤ w'.heap.size) : Sl w' A xs := by
 rcases h with h | ⟨b, off, hA, hlt, h⟩
 · exact .inl h
 · have e := hb b off hA
   refine .inr ⟨b, off, hA, Nat.lt_of_lt_of_le hlt hs, fun i x hx => ?_⟩
   have := h i x hx
   simp only [World.cell?, e] at this ⊢
   exact this
theorem Safe.new {X : World} {u : Option Nat} {g : Nat} {h : Hd} {N : Int} (hin : BgIn X (some ⟨g, 0, none⟩) 1 [⟨h, N⟩]) (hlt : g < X.heap.size) (hg : u ≠ some g) (hh : ∀ b off, h.A = some ⟨b, off, none⟩ → u ≠ some b ∧ b < X.heap.size) : Safe X u ⟨some ⟨g, 0, none⟩, 1, 1, [⟨h, N⟩]⟩ := fun w' hg2 =>
 ⟨hin.len, hin.max, hin.sl.sameAt (hg2.block g hlt (fun e => hg e.symm)) hg2.size, fun c hc => by
   have h1 := hin.each c hc
   rw [List.mem_singleton] at hc
   subst hc
   exact ⟨⟨h1.hd.len, h1.hd.max, h1.hd.sl.sameAt (fun b off hA => hg2.block b (hh b off hA).2 (fun e => (hh b off hA).1 e.symm)) hg2.size⟩, h1.sz, h1.n64, h1.N64, h1.room⟩⟩
structure PrsIn (w : World) (B : Nat) (v : Value) (ps : List Bh) (L : Bg) : Prop where
 own : OwnG w B 30 1 rdBh v ps
 safe : ∀ p ∈ ps, Safe w v.ownBlock p
 map : ps.map (fun b => pl b.cs) = ones L
 one : ∀ p ∈ ps, p.n = 1
theorem PrsIn.after {w w' : World} {B : Nat} {v : Value} {ps : List Bh} {L : Bg} (h : PrsIn w B v ps L) (hb : Below w.heap.size w w') : PrsIn w' B v ps L := ⟨h.own.after hb, fun p hp => (h.safe p hp).after hb, h.map, h.one⟩
theorem tot_one : ∀ ps : List Bh, (∀ p ∈ ps, p.n = 1) → totB ps = ps.length
 | [], _ => rfl
 | p :: ps, h => by
   rw [totB, tot_one ps (fun q hq => h q (List.mem_cons_of_mem _ hq)), h p (by simp), List.length_cons]
   omega
theorem PrsIn.nil (w : World) (B : Nat) : PrsIn w B (.slice none 0 0) [] [] := ⟨OwnG.nil _ _ _, nofun, rfl, nofun⟩
theorem PrsIn.more {X w2 : World} {B : Nat} {v v2 : Value} {ps : List Bh} {L : Bg} {p : Bh} {r : List Val × Int} (h : PrsIn X B v ps L) (hp : Safe X v.ownBlock p) (hpl : pl p.cs = [r]) (hn : p.n = 1) (hv : OwnG w2 B 30 1 rdBh v2 (ps ++ [p])) (hg : X.grownBy w2 v.ownBlock) (hl : v2.ownBlock = v.ownBlock ∨ v2.ownBlock = some X.heap.size) : PrsIn w2 B v2 (ps ++ [p]) (L ++ [r]) :=
 ⟨hv, fun q hq => by
   rcases List.mem_append.1 hq with hq | hq
   · exact (h.safe q hq).app hg hl
   · rw [List.mem_singleton] at hq
     subst hq
     exact hp.app hg hl, by
   unfold ones
   rw [List.map_append, List.map_append, h.map, List.map_singleton, List.map_singleton, hpl]
   rfl, fun q hq => by
   rcases List.mem_append.1 hq with hq | hq
   · exact h.one q hq
   · rw [List.mem_singleton] at hq
     subst hq
     exact hn⟩
end Go.Proofs.YtldaoepemofhlaaGreatDoor
namespace Go.Proofs.YtldaoepemofhlaaGreatDoor
open Go Go.RowKit
set_option maxRecDepth 100000
attribute [local go_sem ↓] Go.wp_at_zero Go.wp_at_succ
theorem may_row {b : Bg} (h : mayBag b = true) {x : List Val × Int} (hx : x ∈ b) : x.1.length ≤ 40 ∧ (∀ v ∈ x.1, mayB v = true) ∧ -1000000000 ≤ x.2 ∧ x.2 ≤ 1000000000 := by
 obtain ⟨_, h1, h2, h3⟩ := okC_parts (may_okC h x hx)
 unfold mayR at h3
 rw [Bool.and_eq_true, decide_eq_true_eq, List.all_eq_true] at h3
 exact ⟨h3.1, h3.2, h1, h2⟩
end Go.Proofs.YtldaoepemofhlaaGreatDoor
namespace Go.Proofs.YtldaoepemofhlaaGreatDoor
open Go Go.RowKit
structure Nd where
 op : Int
 n : Int
 v : Val
def SlN (_ : World) (_ : Option Addr) (_ : List Nd) : Prop := True
theorem SlN.after {w w' : World} {A : Option Addr} {l : List Nd} (_ : SlN w A l) (_ : Below w.heap.size w w') : SlN w' A l := trivial
end Go.Proofs.YtldaoepemofhlaaGreatDoor
namespace Go.Proofs
open Go.Shelf
def Tryz.sortC_ren : Go.Shelf.Ren := ⟨fun | 6 => 76 | 15 => 87 | 14 => 86 | 28 => 104 | 29 => 105 | 20 => 96 | 21 => 97 | 22 => 98 | 23 => 99 | 24 => 100 | 25 => 101 | 26 => 102 | 27 => 103 | 46 => 115 | 47 => 116 | 48 => 117 | 49 => 118 | 50 => 119 | 57 => 128 | n => n, fun | 22 => 29 | 24 => 49 | 25 => 126 | 3 => 3 | 39 => 134 | 0 => 0 | 53 => 150 | 55 => 97 | 4 => 4 | 46 => 143 | 45 => 142 | 50 => 147 | 5 => 5 | 9 => 9 | 66 => 158 | 70 => 162 | 76 => 172 | 77 => 173 | n => n, fun | n => n⟩
theorem Tryz.sortC : Go.Proofs.SlLaysF0.n6 Tryz.prog Tryz.sortC_ren := {
 mixed := by kernel_rfl
 f6 := ⟨Tryz.f76.name, by decide, Tryz.func76.trans (congrArg some (by kernel_rfl))⟩
 f14 := ⟨Tryz.f86.name, by decide, Tryz.func86.trans (congrArg some (by kernel_rfl))⟩
 f15 := Tryz.func87.trans (congrArg some (by kernel_rfl))
 f20 := ⟨Tryz.f96.name, by decide, Tryz.func96.trans (congrArg some (by kernel_rfl))⟩
 f21 := ⟨Tryz.f97.name, by decide, Tryz.func97.trans (congrArg some (by kernel_rfl))⟩
 f22 := ⟨Tryz.f98.name, by decide, Tryz.func98.trans (congrArg some (by kernel_rfl))⟩
 f23 := ⟨Tryz.f99.name, by decide, Tryz.func99.trans (congrArg some (by kernel_rfl))⟩
 f24 := ⟨Tryz.f100.name, by decide, Tryz.func100.trans (congrArg some (by kernel_rfl))⟩
 f25 := ⟨Tryz.f101.name, by decide, Tryz.func101.trans (congrArg some (by kernel_rfl))⟩
 f26 := ⟨Tryz.f102.name, by decide, Tryz.func102.trans (congrArg some (by kernel_rfl))⟩
 f27 := ⟨Tryz.f103.name, by decide, Tryz.func103.trans (congrArg some (by kernel_rfl))⟩
 f28 := Tryz.func104.trans (congrArg some (by kernel_rfl))
 f29 := Tryz.func105.trans (congrArg some (by kernel_rfl))
 f46 := ⟨Tryz.f115.name, by decide, Tryz.func115.trans (congrArg some (by kernel_rfl))⟩
 f47 := Tryz.func116.trans (congrArg some (by kernel_rfl))
 f48 := Tryz.func117.trans (congrArg some (by kernel_rfl))
 f49 := ⟨Tryz.f118.name, by decide, Tryz.func118.trans (congrArg some (by kernel_rfl))⟩
 f50 := ⟨Tryz.f119.name, by decide, Tryz.func119.trans (congrArg some (by kernel_rfl))⟩
 f57 := ⟨Tryz.f128.name, by decide, Tryz.func128.trans (congrArg some (by kernel_rfl))⟩
 t0 := Tryz.underlying0
 a0 := Tryz.isAgg0
 z0 := Tryz.sizeOf0
 v0 := Tryz.zeroValue0
 t3 := Tryz.underlying3
 a3 := Tryz.isAgg3
 z3 := Tryz.sizeOf3
 v3 := Tryz.zeroValue3
 t4 := Tryz.underlying4
 a4 := Tryz.isAgg4
 z4 := Tryz.sizeOf4
 v4 := Tryz.zeroValue4
 t5 := Tryz.underlying5
 a5 := Tryz.isAgg5
 z5 := Tryz.sizeOf5
 v5 := Tryz.zeroValue5
 t9 := Tryz.underlying9
 a9 := Tryz.isAgg9
 z9 := Tryz.sizeOf9
 v9 := Tryz.zeroValue9
 t22 := Tryz.underlying29
 a22 := Tryz.isAgg29
 z22 := Tryz.sizeOf29
 v22 := Tryz.zeroValue29
 t25 := Tryz.underlying126
 a25 := Tryz.isAgg126
 z25 := Tryz.sizeOf126
 v25 := Tryz.zeroValue126
 t39 := Tryz.underlying134
 a39 := Tryz.isAgg134
 z39 := Tryz.sizeOf134
 v39 := Tryz.zeroValue134
 t45 := Tryz.underlying142
 a45 := Tryz.isAgg142
 z45 := Tryz.sizeOf142
 v45 := Tryz.zeroValue142
 t46 := Tryz.underlying143
 a46 := Tryz.isAgg143
 z46 := Tryz.sizeOf143
 v46 := Tryz.zeroValue143
 t50 := Tryz.underlying147
 a50 := Tryz.isAgg147
 z50 := Tryz.sizeOf147
 v50 := Tryz.zeroValue147
 t53 := Tryz.underlying150
 a53 := Tryz.isAgg150
 z53 := Tryz.sizeOf150
 v53 := Tryz.zeroValue150
 t55 := Tryz.underlying97
 a55 := Tryz.isAgg97
 z55 := Tryz.sizeOf97
 v55 := Tryz.zeroValue97
 t66 := Tryz.underlying158
 a66 := Tryz.isAgg158
 z66 := Tryz.sizeOf158
 v66 := Tryz.zeroValue158
 t70 := Tryz.underlying162
 a70 := Tryz.isAgg162
 z70 := Tryz.sizeOf162
 v70 := Tryz.zeroValue162
 t76 := Tryz.underlying172
 a76 := Tryz.isAgg172
 z76 := Tryz.sizeOf172
 v76 := Tryz.zeroValue172
 t77 := Tryz.underlying173
 a77 := Tryz.isAgg173
 z77 := Tryz.sizeOf173
 v77 := Tryz.zeroValue173 }
end Go.Proofs
namespace Go.Proofs.YtldaoepemofhlaaGreatDoor
open Go Go.RowKit Go.Sort
set_option maxRecDepth 100000
theorem closureC_g (x y : Ct) (W : World) (hx : Ct.In W x) (hy : Ct.In W y) : Calls Tryz.prog 77 #[.agg (rdC x).toArray, .agg (rdC y).toArray] W fun e w' => e = .returned (.int .i64 (cmpL x.h.xs y.h.xs)) ∧ Gr W w' := by
 obtain ⟨⟨xA, xn, xc, xs⟩, xN⟩ := x
 obtain ⟨⟨yA, yn, yc, ys⟩, yN⟩ := y
 have Hx := Lib.hid hx
 have Hy := Lib.hid hy
 clear hx hy
 simp only [rdC]
 go_enter Tryz.func77, Tryz.ntmps77
 go_wp2_with fail
 have hb0 := below_two W (.cells #[.slice xA xn xc, .int .i64 xN] 49) (.cells #[.slice yA yn yc, .int .i64 yN] 49)
 refine (compareL_g xA yA xn yn xc yc xs ys _ (Hx.out.after hb0).hd.len (Hy.out.after hb0).hd.len (Hx.out.after hb0).hd.max (Hy.out.after hb0).hd.max (Hx.out.after hb0).hd.sl (Hy.out.after hb0).hd.sl).mono ?_
 rintro e w1 ⟨rfl, hb1⟩
 clear hb0
 have Hg := Lib.hid ((gr_two W (.cells #[.slice xA xn xc, .int .i64 xN] 49) (.cells #[.slice yA yn yc, .int .i64 yN] 49)).trans hb1)
 clear hb1
 go_wp2
 go_ret
 exact ⟨rfl, Hg.out⟩
theorem enClosureC : ∀ args w, (callFunc 77 args).run Tryz.prog w = .ok (.enter 77 args) w := fun _ _ => by kernel_rfl
def OutC (w : World) (g : Nat) (c : Ct) : Prop := Ct.In w c ∧ (c.h.xs = [] ∨ ∃ b off, c.h.A = some ⟨b, off, none⟩ ∧ b ≠ g ∧ b < w.heap.size)
theorem OutC.same {w w' : World} {g : Nat} {c : Ct} (ho : OutC w g c) (hs : w.heap.size ≤ w'.heap.size) (hb : ∀ b, b ≠ g → b < w.heap.size → w'.heap[b]? = w.heap[b]?) : OutC w' g c := by
 obtain ⟨hin, ho⟩ := ho
 rcases ho with h0 | ⟨b, off, hA, hne, hlt⟩
 · exact ⟨⟨⟨hin.hd.len, hin.hd.max, .inl h0⟩, hin.sz, hin.n64, hin.N64, hin.room⟩, .inl h0⟩
 · refine ⟨⟨⟨hin.hd.len, hin.hd.max, ?_⟩, hin.sz, hin.n64, hin.N64, hin.room⟩, .inr ⟨b, off, hA, hne, Nat.lt_of_lt_of_le hlt hs⟩⟩
   rcases hin.hd.sl with h0 | ⟨b', off', hA', hlt', hc⟩
   · exact .inl h0
   · rw [hA] at hA'
     cases hA'
     have e := hb b hne hlt
     have hcell : ∀ j, w'.cell? ⟨b, j, none⟩ = w.cell? ⟨b, j, none⟩ := fun j => by simp only [World.cell?, e]
     exact .inr ⟨b, off, hA, Nat.lt_of_lt_of_le hlt hs, fun i a ha => by rw [hcell, hcell, hcell]; exact hc i a ha⟩
theorem OutC.after {w w' : World} {g : Nat} {c : Ct} (ho : OutC w g c) (hb : Below w.heap.size w w') : OutC w' g c := ho.same hb.size (fun b _ hlt => hb.block b hlt)
theorem OutC.set {w : World} {g : Nat} {c : Ct} (ho : OutC w g c) (i : Nat) (v : Value) : OutC (w.setCell ⟨g, i, none⟩ v) g c :=
 ho.same (by simp) (fun b hb _ => Below.heap_setCell _ _ _ _ (by exact hb))
theorem OutC.old {w w' : World} {g : Nat} {c : Ct} (h : Ct.In w c) (hb : Below w.heap.size w w') (hg : w.heap.size ≤ g) : OutC w' g c := by
 refine ⟨h.after hb, ?_⟩
 rcases h.hd.sl with h0 | ⟨b, off, hA, hlt, _⟩
 · exact .inl h0
 · exact .inr ⟨b, off, hA, by omega, Nat.lt_of_lt_of_le hlt hb.size⟩
theorem sortWorldK_block {α : Type} [Inhabited α] (enc : α → List Value) (k : Nat) (w : World) (g off m : Nat) (d : Array α) (os : Array Obj) (b : Nat) (hb : b ≠ g) (hlt : b < w.heap.size) : (sortWorldK enc k w g off m d os).heap[b]? = w.heap[b]? := by
 unfold sortWorldK putRowK
 show ((putRow id (Sort.ahead w m) g off _).heap ++ os)[b]? = _
 rw [Array.getElem?_append_left (by rw [Sort.size_putRow]; exact hlt)]
 show (w.heap.modify g _)[b]? = _
 rw [Array.getElem?_modify, if_neg (Ne.symm hb)]
theorem sortWorldK_size {α : Type} [Inhabited α] (enc : α → List Value) (k : Nat) (w : World) (g off m : Nat) (d : Array α) (os : Array Obj) : w.heap.size ≤ (sortWorldK enc k w g off m d os).heap.size := by
 unfold sortWorldK putRowK
 rw [size_grow, Sort.size_putRow]
 exact Nat.le_add_right _ _
theorem sortWorldK_below {α : Type} [Inhabited α] (enc : α → List Value) (k : Nat) (w0 w : World) (B g off m : Nat) (d : Array α) (os : Array Obj) (h : Below B w0 w) (hg : B ≤ g) (hB : B ≤ w0.heap.size) : Below B w0 (sortWorldK enc k w g off m d os) :=
 ⟨h.os, h.tape, h.output, Nat.le_trans h.size (sortWorldK_size enc k w g off m d os), fun i hi => (sortWorldK_block enc k w g off m d os i (by omega) (Nat.lt_of_lt_of_le (by omega) h.size)).trans (h.block i hi)⟩
abbrev OutCT (w : World) (g : Nat) := { c : Ct // OutC w g c }
instance (w : World) (g : Nat) : Inhabited (OutCT w g) := ⟨⟨⟨⟨none, 0, 0, []⟩, 0⟩, ⟨⟨rfl, Nat.zero_le _, .inl rfl⟩, nofun, nofun, by decide, Nat.le_refl _⟩, .inl rfl⟩⟩
def encCO {w : World} {g : Nat} (x : OutCT w g) : List Value := rdC x.1
def cfCO {w : World} {g : Nat} (x y : OutCT w g) : Int := cmpL x.1.h.xs y.1.h.xs
theorem ltCO {w : World} {g : Nat} (x y : OutCT w g) : ltOf cfCO x y = !leR y.1.h.xs x.1.h.xs := by
 unfold ltOf cfCO leR
 rw [cmpL_neg x.1.h.xs y.1.h.xs]
 rcases cmpL_range x.1.h.xs y.1.h.xs with e | e | e <;> rw [e] <;> rfl
theorem swoCO (w : World) (g : Nat) : SWO (ltOf (cfCO (w := w) (g := g))) where
 irrefl x := by
  rw [ltCO]
  have := leR_total x.1.h.xs x.1.h.xs
  rw [Bool.or_self] at this
  rw [this]; rfl
 trans x y z h1 h2 := by
  rw [ltCO, Bool.not_eq_true'] at h1 h2 ⊢
  have t1 := leR_total y.1.h.xs x.1.h.xs
  rw [h1, Bool.false_or] at t1
  cases h3 : leR z.1.h.xs x.1.h.xs
  · rfl
  · rw [leR_trans _ _ _ h3 t1] at h2
    cases h2
 ntrans x y z h1 h2 := by
  rw [ltCO, Bool.not_eq_false'] at h1 h2 ⊢
  exact leR_trans _ _ _ h2 h1
theorem cmpCO (w : World) (g off n : Nat) : CmpLays Tryz.prog 77 #[] (encCO (w := w) (g := g)) 2 cfCO g off n w := by
 intro m os dk _ x y
 have hx : OutC (sortWorldK encCO 2 w g off m dk os) g x.1 := x.2.same (sortWorldK_size _ _ _ _ _ _ _ _) (fun b hb hlt => sortWorldK_block _ _ _ _ _ _ _ _ b hb hlt)
 have hy : OutC (sortWorldK encCO 2 w g off m dk os) g y.1 := y.2.same (sortWorldK_size _ _ _ _ _ _ _ _) (fun b hb hlt => sortWorldK_block _ _ _ _ _ _ _ _ b hb hlt)
 exact closureC_g x.1 y.1 _ hx.1 hy.1
structure Wr (w : World) (g off : Nat) (ks : List Ct) : Prop where
 lt : g < w.heap.size
 at' : ∀ i x, ks[i]? = some x → ∀ j u, (rdC x)[j]? = some u → w.cell? ⟨g, off + i * 2 + j, none⟩ = some u ∧ w.frozen? ⟨g, off + i * 2 + j, none⟩ = false
theorem Wr.slG {w : World} {g off : Nat} {ks : List Ct} (h : Wr w g off ks) : SlG w (some ⟨g, off, none⟩) 2 rdC ks := .inr ⟨g, off, rfl, h.lt, fun i x hx j u hu => (h.at' i x hx j u hu).1⟩
theorem sortC_c (g off n cap : Nat) (ks : List Ct) (w : World) (hn : ks.length = n) (hn1 : n ≤ 1000000) (hM : Wr w g off ks) (ho : ∀ c ∈ ks, OutC w g c) :
 Calls Tryz.prog 76 #[.slice (some ⟨g, off, none⟩) n cap, .func (.func 77) #[] #[]] w fun e w' => e = .returned (.tuple #[]) ∧
  ∃ ks' : List Ct, ks'.Perm ks ∧ (ks'.Pairwise fun x y => leR x.h.xs y.h.xs = true) ∧ Wr w' g off ks' ∧ (∀ c ∈ ks', OutC w' g c) ∧ (∀ (w0 : World) (B : Nat), Below B w0 w → B ≤ g → B ≤ w0.heap.size → Below B w0 w') ∧ w.heap.size ≤ w'.heap.size := by
 let l : List (OutCT w g) := ks.attachWith (OutC w g) ho
 have hl : l.map (·.1) = ks := List.attachWith_map_subtype_val ..
 have hll : l.length = n := by rw [← hn, ← hl, List.length_map]
 have hsz : l.toArray.size = n := by rw [List.size_toArray]; exact hll
 have hget : ∀ j (hj : j < n), l.toArray[j]! = l[j]'(by omega) := fun j hj => by
  rw [getElem!_pos _ j (by omega)]
  simp
 have hks : ∀ j (hj : j < n), ks[j]? = some (l[j]'(by omega)).1 := fun j hj => by
  have : ks[j]? = (l.map (·.1))[j]? := by rw [hl]
  rw [this, List.getElem?_map, List.getElem?_eq_getElem (by omega)]
  rfl
 have hH : HoldsK encCO 2 w g off l.toArray := by
  intro t ht
  have ht' : t < n * 2 := by rw [size_flatK, hsz] at ht; exact ht
  rw [get_flatK _ _ _ t (by rw [hsz]; exact ht'), hget _ (by omega)]
  have h2 := hM.at' (t / 2) _ (hks (t / 2) (by omega)) (t % 2)
  have e : off + t / 2 * 2 + t % 2 = off + t := by omega
  rw [e] at h2
  have hlt : t % 2 < (encCO (l[t / 2]'(by omega))).length := by
   show t % 2 < 2
   omega
  refine h2 _ ?_
  rw [getElem!_pos (encCO (l[t / 2]'(by omega))) (t % 2) hlt]
  exact List.getElem?_eq_getElem hlt
 have hS := AnyQ.slices_SortFunc Tryz.sortC 2 Tryz.isAgg49 Tryz.sizeOf49 encCO (fun _ => rfl) (fun x v hv => by simp [encCO, rdC] at hv; rcases hv with rfl | rfl <;> rfl) cfCO (swoCO w g) 77 #[] g off cap l.toArray w enClosureC (by rw [hsz]; exact cmpCO w g off n) hH hM.lt (by rw [hsz]; omega)
 rw [hsz] at hS
 refine hS.mono ?_
 rintro e w' ⟨he, d', q, os, hp, hs, rfl⟩
 have hd : d'.size = n := hp.1.trans hsz
 have hperm : d'.toList.Perm l := by
  have := hp.2.2
  rw [show d'.extract 0 n = d' by rw [← hd]; simp, show l.toArray.extract 0 n = l.toArray by rw [← hsz]; simp] at this
  exact this
 refine ⟨he, d'.toList.map (·.1), ?_, ?_, ?_, ?_, ?_, sortWorldK_size _ _ _ _ _ _ _ _⟩
 · rw [← hl]
   exact hperm.map _
 · rw [List.pairwise_map, List.pairwise_iff_getElem]
   intro i j hi hj hij
   have hi' : i < d'.size := by simpa using hi
   have hj' : j < d'.size := by simpa using hj
   have := hs i j (Nat.zero_le _) hij (by omega)
   rw [getElem!_pos _ i hi', getElem!_pos _ j hj', ltCO, Bool.not_eq_false'] at this
   simpa using this
 · have hH2 := holdsK_sortWorldK encCO 2 w g off q l.toArray d' os hM.lt hH hp.1
   refine ⟨Nat.lt_of_lt_of_le hM.lt (sortWorldK_size _ _ _ _ _ _ _ _), fun i x hx j u hu => ?_⟩
   have hj : j < 2 := (List.getElem?_eq_some_iff.1 hu).1
   rw [List.getElem?_map] at hx
   cases hy : d'.toList[i]? with
   | none => rw [hy] at hx; cases hx
   | some y =>
     rw [hy] at hx
     simp only [Option.map_some, Option.some.injEq] at hx
     subst hx
     obtain ⟨hi, hiy⟩ := List.getElem?_eq_some_iff.1 hy
     have hi' : i < d'.size := by simpa using hi
     have h1 := hH2.cell hi' hj
     rw [getElem!_pos _ i hi', show d'[i] = y by simpa using hiy] at h1
     have h3 : (encCO y)[j]! = u := by
      rw [getElem!_pos (encCO y) j (show j < (encCO y).length from hj)]
      have := (List.getElem?_eq_some_iff.1 hu).2
      exact this
     rw [h3] at h1
     exact h1
 · intro c hc
   obtain ⟨x, _, rfl⟩ := List.mem_map.1 hc
   exact x.2.same (sortWorldK_size _ _ _ _ _ _ _ _) (fun b hb hlt => sortWorldK_block _ _ _ _ _ _ _ _ b hb hlt)
 · intro w0 B hb hB hB0
   exact sortWorldK_below _ _ w0 w B g _ _ _ _ hb hB hB0
theorem sortC0_c (A : Option Addr) (cap : Nat) (w : World) : Calls Tryz.prog 76 #[.slice A 0 cap, .func (.func 77) #[] #[]] w fun e w' => e = .returned (.tuple #[]) ∧ w' = w :=
 AnyF.slices_SortFunc_none Tryz.sortC A cap _ w
end Go.Proofs.YtldaoepemofhlaaGreatDoor
namespace Go.Proofs.YtldaoepemofhlaaGreatDoor
open Go Go.RowKit
set_option maxRecDepth 100000
theorem ev_idxK {F : Act} {w : World} {t u : Tmp} {b off n c k : Nat} {o : Oper} (hk : k < n) (ho : o.op = .indexAddr 29 (.tmp t) (.tmp u)) (ht : Reg.slot F t = .slice (some ⟨b, off, none⟩) n c) (hu : Reg.slot F u = .int .i64 k) :
 (execOp F.eval o).run Tryz.prog w = .ok (.value (.pointer (some ⟨b, off + k * 2, none⟩))) w := by
 have e1 : F.eval (.tmp t) = .slice (some ⟨b, off, none⟩) n c := ht
 have e2 : F.eval (.tmp u) = .int .i64 k := hu
 have e0 : (execOp F.eval o).run Tryz.prog w = ((Instr.indexAt 29 (.slice (some ⟨b, off, none⟩) n c) (.int .i64 k)).run Tryz.prog w).andThen fun v w' => .ok (.value v) w' := by
  simp only [execOp, ho, e1, e2, Sem.run_bind, Sem.run_pure]
 rw [e0]
 go_simp
structure NewC (w : World) (B : Nat) (xs : List Val) (N : Int) (h : Hd) : Prop where
 ct : Ct.In w ⟨h, N⟩
 eq : h.xs = xs
 lt : ∀ b off, h.A = some ⟨b, off, none⟩ → B ≤ b ∧ b < w.heap.size
theorem NewC.of {w w' : World} {B : Nat} {h : Hd} {c : Ct} (hi : Hd.In w' h) (hx : h.xs = c.h.xs) (hb : ∀ b off, h.A = some ⟨b, off, none⟩ → B ≤ b ∧ b < w'.heap.size) (hc : Ct.In w c) (hroom : h.n ≤ h.c) : NewC w' B c.h.xs c.N h :=
 ⟨⟨hi, by rw [hx]; exact hc.sz, by rw [hx]; exact hc.n64, hc.N64, hroom⟩, hx, hb⟩
def negC (x : Ct) : Ct := ⟨x.h, -x.N⟩
def negR (b : Bg) : Bg := if mayBag b then negB b else []
theorem pl_neg (cs : List Ct) : pl (cs.map negC) = negB (pl cs) := by
 unfold pl negB
 rw [List.map_map, List.map_map]
 rfl
theorem neg_take (cs : List Ct) (k : Nat) (x : Ct) (h : cs[k]? = some x) : (cs.take (k + 1)).map negC = (cs.take k).map negC ++ [negC x] := by
 rw [List.take_add_one, h, List.map_append]
 rfl
theorem sum_perm {a b : Bg} (h : a.Perm b) (s : List Val) : sumB a s = sumB b s := by
 induction h with
 | nil => rfl
 | cons x _ ih => rw [sumB, sumB, ih]
 | swap x y l => rw [sumB, sumB, sumB, sumB]; omega
 | trans _ _ h1 h2 => rw [h1, h2]
theorem sum_bd (P : Int) (hP : 0 ≤ P) : ∀ (b : Bg) (s : List Val), Bd P b → -(b.length * P) ≤ sumB b s ∧ sumB b s ≤ b.length * P
 | [], _, _ => by rw [sumB]; simp
 | x :: b, s, h => by
   have h1 := sum_bd P hP b s (fun y hy => h y (List.mem_cons_of_mem _ hy))
   have h2 := h x (by simp)
   rw [sumB, List.length_cons]
   have e : ((b.length + 1 : Nat) : Int) * P = b.length * P + P := by
    rw [Int.natCast_add, Int.add_mul, Int.natCast_one, Int.one_mul]
   rw [e]
   split <;> omega
structure MI (p M : Bg) : Prop where
 asc : Asc M
 sum : ∀ s, sumB M s = sumB p s
 key : ∀ x ∈ M, ∃ y ∈ p, y.1 = x.1
 last : (p = [] ∧ M = []) ∨ ∃ p' M' r n m, p = p' ++ [(r, n)] ∧ M = M' ++ [(r, m)]
theorem MI.start : MI [] [] := ⟨List.Pairwise.nil, fun _ => rfl, nofun, .inl ⟨rfl, rfl⟩⟩
theorem asc_last {M : Bg} {r : List Val} {n : Int} (h : Asc (M ++ [(r, n)])) : Asc M ∧ ∀ x ∈ M, cmpL x.1 r = -1 := by
 unfold Asc at h
 rw [List.pairwise_append] at h
 exact ⟨h.1, fun x hx => h.2.2 x hx (r, n) (by simp)⟩
theorem asc_snoc {M : Bg} {r : List Val} {n : Int} (h : Asc M) (h2 : ∀ x ∈ M, cmpL x.1 r = -1) : Asc (M ++ [(r, n)]) := by
 unfold Asc
 rw [List.pairwise_append]
 exact ⟨h, List.pairwise_singleton _ _, fun x hx y hy => by rw [List.mem_singleton] at hy; rw [hy]; exact h2 x hx⟩
theorem MI.same {p M : Bg} {r q : List Val} {m n : Int} (h : MI p (M ++ [(r, m)])) (hc : cmpL r q = 0) : MI (p ++ [(q, n)]) (M ++ [(r, m + n)]) := by
 have e := cmpL_iff.1 hc
 subst e
 have ha := asc_last h.asc
 refine ⟨asc_snoc ha.1 ha.2, fun s => ?_, fun x hx => ?_, .inr ⟨p, M, r, n, m + n, rfl, rfl⟩⟩
 · have := h.sum s
   rw [sum_append] at this
   rw [sum_append, sum_append, ← this]
   simp only [sumB]
   split <;> omega
 · rcases List.mem_append.1 hx with hx | hx
   · obtain ⟨y, hy, e⟩ := h.key x (List.mem_append_left _ hx)
     exact ⟨y, List.mem_append_left _ hy, e⟩
   · rw [List.mem_singleton] at hx
     exact ⟨(r, n), by simp, by rw [hx]⟩
theorem MI.next {p M : Bg} {q : List Val} {n : Int} (h : MI p M) (hle : ∀ y ∈ p, leR y.1 q = true) (hne : ∀ p' r m, p = p' ++ [(r, m)] → cmpL r q ≠ 0) : MI (p ++ [(q, n)]) (M ++ [(q, n)]) := by
 have hlt : ∀ x ∈ M, cmpL x.1 q = -1 := by
  rcases h.last with ⟨_, hM⟩ | ⟨p', M', r, n', m, hp, hM⟩
  · rw [hM]; nofun
  · have hr : cmpL r q = -1 := by
     have h1 := hle (r, n') (by rw [hp]; simp)
     have h2 := hne p' r n' hp
     unfold leR at h1
     rcases cmpL_range r q with e | e | e
     · exact e
     · exact absurd e h2
     · simp [e] at h1
    intro x hx
    have ha := h.asc
    rw [hM] at ha hx
    rcases List.mem_append.1 hx with hx | hx
    · exact cmpL_trans ((asc_last ha).2 x hx) hr
    · rw [List.mem_singleton] at hx
      rw [hx]
      exact hr
 refine ⟨asc_snoc h.asc hlt, fun s => ?_, fun x hx => ?_, .inr ⟨p, M, q, n, n, rfl, rfl⟩⟩
 · rw [sum_append, sum_append, h.sum s]
 · rcases List.mem_append.1 hx with hx | hx
   · obtain ⟨y, hy, e⟩ := h.key x hx
     exact ⟨y, List.mem_append_left _ hy, e⟩
   · rw [List.mem_singleton] at hx
     exact ⟨(q, n), by simp, by rw [hx]⟩
theorem MI.count {p M : Bg} (h : MI p M) {x : List Val × Int} (hx : x ∈ M) : x.2 = sumB p x.1 := by rw [← h.sum, sum_look _ _ h.asc, look_mem _ x h.asc hx]
theorem MI.bd {p M : Bg} (h : MI p M) (P : Int) (hP : 0 ≤ P) (hb : Bd P p) {x : List Val × Int} (hx : x ∈ M) : -(p.length * P) ≤ x.2 ∧ x.2 ≤ p.length * P := by rw [h.count hx]; exact sum_bd P hP p x.1 hb
theorem MI.plus {l : List Bg} {p M : Bg} (h : MI p M) (hp : p.Perm l.flatten) : M.filter (fun x => !(x.2 == 0)) = plusL l := by
 have hfl : ∀ (l : List Bg) (s : List Val), sumB l.flatten s = sumL l s := by
  intro l s
  induction l with
  | nil => rfl
  | cons b l ih => rw [List.flatten_cons, sum_append, ih, sumL]
 have hlook : ∀ (b : Bg) (s : List Val), Asc b → lookB (b.filter fun x => !(x.2 == 0)) s = lookB b s := by
  intro b s hb
  induction b with
  | nil => rfl
  | cons x b ih =>
    have hi := ih (asc_tail hb)
    cases hz : x.2 == 0
    · rw [List.filter_cons_of_pos (by rw [hz]; rfl), lookB, lookB, hi]
    · rw [List.filter_cons_of_neg (by rw [hz]; simp), lookB, hi]
      split
      · rename_i hc
        have e := cmpL_iff.1 hc
        rw [← e, look_none b x.1 (asc_head hb)]
        simpa using (eq_of_beq hz).symm
      · rfl
 refine bag_ext _ _ (List.Pairwise.sublist List.filter_sublist h.asc) (asc_plus l) (fun x hx => ?_) (nz_plus l) fun s => ?_
 · have := (List.mem_filter.1 hx).2
   simpa using this
 · rw [hlook M s h.asc, look_plus, ← hfl l s, ← sum_perm hp s, ← h.sum s, sum_look M s h.asc]
def ApartC (w : World) (A : Option Addr) (ol : List Ct) : Prop := ∀ c ∈ ol, Ct.In w c ∧ ∀ g o, A = some ⟨g, o, none⟩ → OutC w g c
theorem ApartC.nil (w : World) (A : Option Addr) : ApartC w A [] := nofun
theorem ApartC.after {w w' : World} {A : Option Addr} {ol : List Ct} (h : ApartC w A ol) (hb : Below w.heap.size w w') : ApartC w' A ol := fun c hc => ⟨(h c hc).1.after hb, fun g o hA => ((h c hc).2 g o hA).after hb⟩
theorem ApartC.each {w : World} {A : Option Addr} {ol : List Ct} (h : ApartC w A ol) : ∀ c ∈ ol, Ct.In w c := fun c hc => (h c hc).1
theorem grown_ct {w9 X w2 : World} {u u2 : Option Nat} {c : Ct} (hin : Ct.In w9 c) (hne : c.h.xs = [] ∨ ∃ b off, c.h.A = some ⟨b, off, none⟩ ∧ u ≠ some b ∧ b < w9.heap.size) (hX : Below w9.heap.size w9 X) (hg : X.grownBy w2 u) (hloc : u2 = u ∨ u2 = some X.heap.size) : Ct.In w2 c ∧ ∀ g, u2 = some g → OutC w2 g c := by
 rcases hne with h0 | ⟨b, off, hA, hub, hlt⟩
 · have h1 : Ct.In w2 c := ⟨⟨hin.hd.len, hin.hd.max, .inl h0⟩, hin.sz, hin.n64, hin.N64, hin.room⟩
   exact ⟨h1, fun g _ => ⟨h1, .inl h0⟩⟩
 · have hblk : w2.heap[b]? = w9.heap[b]? := (hg.block b (Nat.lt_of_lt_of_le hlt hX.size) (fun e => hub e.symm)).trans (hX.block b hlt)
   have hsz : w9.heap.size ≤ w2.heap.size := Nat.le_trans hX.size hg.size
   have h1 : Ct.In w2 c := by
    refine ⟨⟨hin.hd.len, hin.hd.max, ?_⟩, hin.sz, hin.n64, hin.N64, hin.room⟩
    rcases hin.hd.sl with h0 | ⟨b', off', hA', hlt', hc⟩
    · exact .inl h0
    · rw [hA] at hA'
      cases hA'
      have hcell : ∀ j, w2.cell? ⟨b, j, none⟩ = w9.cell? ⟨b, j, none⟩ := fun j => by simp only [World.cell?, hblk]
      exact .inr ⟨b, off, hA, Nat.lt_of_lt_of_le hlt hsz, fun i a ha => by rw [hcell, hcell, hcell]; exact hc i a ha⟩
   refine ⟨h1, fun g hg2 => ⟨h1, .inr ⟨b, off, hA, ?_, Nat.lt_of_lt_of_le hlt hsz⟩⟩⟩
   rintro rfl
   rcases hloc with e | e
   · rw [e] at hg2
     exact hub hg2
   · rw [e] at hg2
     cases hg2
     have := hX.size
     omega
theorem ApartC.app {w9 X w2 : World} {A' A2 : Option Addr} {m c' m2 c2 : Nat} {ol : List Ct} {h : Hd} {N : Int} (hA : ApartC w9 A' ol) (hX : Below w9.heap.size w9 X) (hg : X.grownBy w2 (Value.slice A' m c').ownBlock) (hloc : (Value.slice A2 m2 c2).ownBlock = (Value.slice A' m c').ownBlock ∨ (Value.slice A2 m2 c2).ownBlock = some X.heap.size)
 (hx : Ct.In w9 ⟨h, N⟩) (hx2 : ∀ b off, h.A = some ⟨b, off, none⟩ → (Value.slice A' m c').ownBlock ≠ some b ∧ b < w9.heap.size) (hp : ∀ g o t, A' = some ⟨g, o, t⟩ → t = none) : ApartC w2 A2 (ol ++ [⟨h, N⟩]) := by
 intro c hc
 have key : Ct.In w9 c ∧ (c.h.xs = [] ∨ ∃ b off, c.h.A = some ⟨b, off, none⟩ ∧ (Value.slice A' m c').ownBlock ≠ some b ∧ b < w9.heap.size) := by
  rcases List.mem_append.1 hc with hc | hc
  · refine ⟨(hA c hc).1, ?_⟩
    cases hA' : A' with
    | none =>
      rcases (hA c hc).1.hd.sl with h0 | ⟨b, off, hb, hlt, _⟩
      · exact .inl h0
      · exact .inr ⟨b, off, hb, nofun, hlt⟩
    | some ad =>
      obtain ⟨g, o, t⟩ := ad
      obtain rfl := hp g o t hA'
      rcases ((hA c hc).2 g o hA').2 with h0 | ⟨b, off, hb, hne, hlt⟩
      · exact .inl h0
      · refine .inr ⟨b, off, hb, fun e => hne ?_, hlt⟩
        injection e with e
        exact e.symm
  · rw [List.mem_singleton] at hc
    subst hc
    refine ⟨hx, ?_⟩
    rcases hx.hd.sl with h0 | ⟨b, off, hb, _, _⟩
    · exact .inl h0
    · exact .inr ⟨b, off, hb, hx2 b off hb⟩
 have h2 := grown_ct key.1 key.2 hX hg hloc
 exact ⟨h2.1, fun g o e => h2.2 g (by rw [e]; rfl)⟩
theorem OwnG.plain {w : World} {B m c : Nat} {E : TypeId} {A : Option Addr} {ol : List Ct} (h : OwnG w B E 2 rdC (.slice A m c) ol) : ∀ g o t, A = some ⟨g, o, t⟩ → t = none := by
 intro g o t hA
 rcases h.2 with ⟨hv, _⟩ | ⟨g', cap, cur, hv, _⟩
 · injection hv with e
   rw [hA] at e
   cases e
 · injection hv with e
   rw [hA] at e
   cases e
   rfl
theorem OwnG.setN {w : World} {B g m c : Nat} {ol : List Ct} {h : Hd} {N : Int} (ho : OwnG w B 49 2 rdC (.slice (some ⟨g, 0, none⟩) (m + 1) c) (ol ++ [⟨h, N⟩])) (hm : ol.length = m) (N1 : Int) : OwnG (w.setCell ⟨g, m * 2 + 1, none⟩ (.int .i64 N1)) B 49 2 rdC (.slice (some ⟨g, 0, none⟩) (m + 1) c) (ol ++ [⟨h, N1⟩]) := by
 obtain ⟨h1, h2⟩ := ho
 have hfl : (ol.flatMap rdC).length = m * 2 := by rw [flat_len cOk.len, hm]
 refine ⟨?_, ?_⟩
 · rw [flat_len cOk.len]
 · rcases h2 with ⟨hv, _⟩ | ⟨g', cap, cur, hv, hB, hh, hle, hmx, hsz, htk⟩
   · cases hv
   · injection hv with e1 e2 e3
     cases e1
     subst e3
     have hlen : (ol ++ [(⟨h, N⟩ : Ct)]).length = m + 1 := by rw [List.length_append, hm]; rfl
     have hlen1 : (ol ++ [(⟨h, N1⟩ : Ct)]).length = m + 1 := by rw [List.length_append, hm]; rfl
     rw [hlen] at htk hle
     refine .inr ⟨g, c, cur.setIfInBounds (m * 2 + 1) (.int .i64 N1), by rw [hlen1], hB, heap_setCell_same _ _ _ _ _ _ hh, by rw [hlen1]; exact hle, hmx, by rw [Array.size_setIfInBounds]; exact hsz, ?_⟩
     rw [hlen1, Array.toList_setIfInBounds, List.take_set, htk, List.flatMap_append, List.flatMap_append, List.set_append_right _ _ (by omega), hfl, show m * 2 + 1 - m * 2 = 1 by omega]
     rfl
structure MrgSaid (w : World) (A : Option Addr) (ks : List Ct) (A' : Option Addr) (m c' : Nat) (ol : List Ct) (w' : World) : Prop where
 len : ol.length = m
 le : m ≤ ks.length
 own : OwnG w' w.heap.size 49 2 rdC (.slice A' m c') ol
 apart : ApartC w' A' ol
 mi : ∃ p, p.Perm (pl ks) ∧ MI p (pl ol)
 below : ∀ w0 B, Below B w0 w → (∀ g off, A = some ⟨g, off, none⟩ → B ≤ g) → B ≤ w0.heap.size → Below B w0 w'
structure SrtSaid (w : World) (A : Option Addr) (ks ks' : List Ct) (w' : World) : Prop where
 perm : ks'.Perm ks
 asc : ks'.Pairwise fun x y => leR x.h.xs y.h.xs = true
 sl : SlG w' A 2 rdC ks'
 each : ∀ c ∈ ks', Ct.In w' c
 below : ∀ w0 B, Below B w0 w → (∀ g off, A = some ⟨g, off, none⟩ → B ≤ g) → B ≤ w0.heap.size → Below B w0 w'
 size : w.heap.size ≤ w'.heap.size
theorem sortAny_c (A : Option Addr) (n c : Nat) (ks : List Ct) (w : World) (hn : ks.length = n) (hn1 : n ≤ 1000000) (hM : n = 0 ∨ ∃ g off, A = some ⟨g, off, none⟩ ∧ Wr w g off ks ∧ ∀ c ∈ ks, OutC w g c) :
 Calls Tryz.prog 76 #[.slice A n c, .func (.func 77) #[] #[]] w fun e w' => e = .returned (.tuple #[]) ∧ ∃ ks', SrtSaid w A ks ks' w' := by
 by_cases h0 : n = 0
 · subst h0
   have : ks = [] := List.eq_nil_of_length_eq_zero hn
   subst this
   refine (sortC0_c A c w).mono ?_
   rintro e w' ⟨rfl, rfl⟩
   exact ⟨rfl, [], List.Perm.refl _, List.Pairwise.nil, .inl rfl, nofun, fun w0 B h _ _ => h, Nat.le_refl _⟩
 · rcases hM with h | ⟨g, off, rfl, hW, hO⟩
   · exact absurd h h0
   · refine (sortC_c g off n c ks w hn hn1 hW hO).mono ?_
     rintro e w' ⟨rfl, ks', h1, h2, h3, h4, h5, h6⟩
     exact ⟨rfl, ks', h1, h2, h3.slG, fun c hc => (h4 c hc).1, fun w0 B hb hg hB => h5 w0 B hb (hg g off rfl) hB, h6⟩
theorem pairwise_take {l : List Ct} (h : l.Pairwise fun x y => leR x.h.xs y.h.xs = true) (k : Nat) (x : Ct) (hx : l[k]? = some x) : ∀ y ∈ pl (l.take k), leR y.1 x.h.xs = true := by
 intro y hy
 obtain ⟨c, hc, rfl⟩ := List.mem_map.1 hy
 obtain ⟨i, hi, hic⟩ := List.getElem_of_mem hc
 rw [List.length_take] at hi
 rw [List.getElem_take] at hic
 obtain ⟨hk, hkx⟩ := List.getElem?_eq_some_iff.1 hx
 have := List.pairwise_iff_getElem.1 h i k (by omega) hk (by omega)
 rw [hic, hkx] at this
 exact this
theorem pl_take_succ {l : List Ct} {k : Nat} {x : Ct} (hx : l[k]? = some x) : pl (l.take (k + 1)) = pl (l.take k) ++ [(x.h.xs, x.N)] := by
 unfold pl
 rw [List.take_add_one, hx, List.map_append]
 rfl
theorem pl_split {ol : List Ct} {M : Bg} {r : List Val} {m : Int} (h : pl ol = M ++ [(r, m)]) : ∃ (ol' : List Ct) (h' : Hd) (N : Int), ol = ol' ++ [⟨h', N⟩] ∧ h'.xs = r ∧ N = m ∧ pl ol' = M := by
 have hne : ol ≠ [] := by
  rintro rfl
  have := congrArg List.length h
  simp [pl] at this
 refine ⟨ol.dropLast, (ol.getLast hne).h, (ol.getLast hne).N, (List.dropLast_concat_getLast hne).symm, ?_⟩
 have e : pl ol = pl ol.dropLast ++ [((ol.getLast hne).h.xs, (ol.getLast hne).N)] := by
  have := congrArg pl (List.dropLast_concat_getLast hne).symm
  rw [this, pl_app]
  rfl
 rw [e] at h
 have h2 := List.append_inj' h rfl
 have h3 := List.cons.inj h2.2
 exact ⟨congrArg Prod.fst h3.1, congrArg Prod.snd h3.1, h2.1⟩
set_option maxHeartbeats 4000000 in
theorem merged_c (A : Option Addr) (n c : Nat) (ks : List Ct) (w : World) (hn : ks.length = n) (hn1 : n ≤ 100000) (hM : n = 0 ∨ ∃ g off, A = some ⟨g, off, none⟩ ∧ Wr w g off ks ∧ ∀ c ∈ ks, OutC w g c) (hl : ∀ c ∈ ks, c.h.xs.length ≤ 100000) (hbd : Bd 1000000000 (pl ks)) :
 Calls Tryz.prog 63 #[.slice A n c] w fun e w' => ∃ A' m c' ol, e = .returned (.slice A' m c') ∧ MrgSaid w A ks A' m c' ol w' := by
 have HS := Lib.hid (sortAny_c A n c ks w hn (by omega) hM)
 have Hn := Lib.hid hn
 have Hl := Lib.hid hl
 have Hbd := Lib.hid hbd
 clear hn hl hbd hM
 go_enter Tryz.func63, Tryz.ntmps63
 go_wp2_with fail
 refine HS.out.mono ?_
 rintro e W ⟨rfl, ls, hS⟩
 have Hls : Hid (ls.length = n) := Lib.hid (by rw [hS.perm.length_eq, Hn.out])
 have HS2 := Lib.hid hS
 clear hS HS
 go_wp2_with fail
 go_loopw [3, 10] (fun v i wr => ∃ (k m : Nat) (A' : Option Addr) (c' : Nat) (ol : List Ct), k ≤ n ∧ m ≤ k ∧ i = .int .i64 k ∧ v = .slice A' m c' ∧ Hid (ol.length = m) ∧ Hid (Below W.heap.size W wr) ∧ Hid (OwnG wr W.heap.size 49 2 rdC (.slice A' m c') ol) ∧ Hid (ApartC wr A' ol) ∧ Hid (MI (pl (ls.take k)) (pl ol))) (fun _ i _ => n - (intOf i).toNat)
 case atStart => exact ⟨0, 0, none, 0, [], Nat.zero_le _, Nat.le_refl _, rfl, rfl, Lib.hid rfl, Lib.hid (Below.refl _ _), Lib.hid (OwnG.nil _ _ _), Lib.hid (ApartC.nil _ _), Lib.hid MI.start⟩
 case round =>
  obtain ⟨k, m, A', c', ol, hk, hmk, rfl, rfl, hol, hb, ho, hap, hmi⟩ := hrel
  by_cases hlt : k < n
  · obtain ⟨b, off, rfl⟩ := HS2.out.sl.some2 (k := k) (by rw [Hls.out]; exact hlt)
    obtain ⟨x, hx⟩ : ∃ x, ls[k]? = some x := ⟨_, List.getElem?_eq_getElem (by rw [Hls.out]; exact hlt)⟩
    obtain ⟨hblt, c0, c1⟩ := HS2.out.sl.cell2 hx
    have d0 := (hb.out.cell (p := ⟨b, off + k * 2, none⟩) hblt).trans c0
    have d1 := (hb.out.cell (p := ⟨b, off + k * 2 + 1, none⟩) hblt).trans c1
    have l0 : b < wr.heap.size := Nat.lt_of_lt_of_le hblt hb.out.size
    have Hx := Lib.hid ((HS2.out.each x (List.mem_of_getElem? hx)).after hb.out)
    have Hxl := Lib.hid (Hl.out x (HS2.out.perm.mem_iff.1 (List.mem_of_getElem? hx)))
    have Hpk := Lib.hid (pl_take_succ hx)
    have Hle := Lib.hid (pairwise_take HS2.out.asc k x hx)
    have HN : Hid (-1000000000 ≤ x.N ∧ x.N ≤ 1000000000) := Lib.hid (Hbd.out _ (pl_mem (HS2.out.perm.mem_iff.1 (List.mem_of_getElem? hx))))
    have HM9 : Hid (∀ y ∈ pl ol, -100000000000000 ≤ y.2 ∧ y.2 ≤ 100000000000000) := Lib.hid fun y hy => by
     have hp : Bd 1000000000 (pl (ls.take k)) := fun z hz => by
      obtain ⟨c1, hc1, rfl⟩ := List.mem_map.1 hz
      exact Hbd.out _ (pl_mem (HS2.out.perm.mem_iff.1 (List.mem_of_mem_take hc1)))
     have h1 := hmi.out.bd 1000000000 (by decide) hp hy
     have h2 : (pl (ls.take k)).length ≤ 100000 := by rw [pl_len, List.length_take]; omega
     omega
    clear c0 c1
    have hprev : Hid (∀ j, k = j + 1 → ∃ y : Ct, ls[j]? = some y ∧ Ct.In wr y ∧ wr.cell? ⟨b, off + j * 2, none⟩ = some (.slice y.h.A y.h.n y.h.c)) := Lib.hid (by
     rintro j rfl
     obtain ⟨y, hy⟩ : ∃ y, ls[j]? = some y := ⟨_, List.getElem?_eq_getElem (by rw [Hls.out]; omega)⟩
     obtain ⟨hblt, c0, c1⟩ := HS2.out.sl.cell2 hy
     exact ⟨y, hy, (HS2.out.each y (List.mem_of_getElem? hy)).after hb.out, (hb.out.cell (p := ⟨b, off + j * 2, none⟩) hblt).trans c0⟩)
    clear hx
    obtain ⟨⟨xA, xn, xc, xs⟩, N⟩ := x
    have hgo : (k : Int) < n := by omega
    have lw := hb.out.size
    have Hbw := Lib.hid (below_one wr (.cells #[.slice xA xn xc, .int .i64 N] 49))
    have dg0 : Hid ((wr.alloc (.cells #[.slice xA xn xc, .int .i64 N] 49)).cell? ⟨wr.heap.size, 0, none⟩ = some (.slice xA xn xc)) := Lib.hid (by simp)
    have dg1 : Hid ((wr.alloc (.cells #[.slice xA xn xc, .int .i64 N] 49)).cell? ⟨wr.heap.size, 1, none⟩ = some (.int .i64 N)) := Lib.hid (by simp)
    have Hb1 := Lib.hid (below_via hb.out Hbw.out)
    have Hx1 := Lib.hid (Hx.out.after Hbw.out)
    clear hb
    go_wp2_with fail
    have lg1 : wr.heap.size < (wr.alloc (.cells #[.slice xA xn xc, .int .i64 N] 49)).heap.size := by simp
    have l1 : b < (wr.alloc (.cells #[.slice xA xn xc, .int .i64 N] 49)).heap.size := Nat.lt_trans l0 lg1
    clear d0 d1
    cases hk0 : decide (0 < (k : Int))
    · have hk1 : k = 0 := by have := of_decide_eq_false hk0; omega
      have Hne : Hid (∀ p' r q, pl (ls.take k) = p' ++ [(r, q)] → cmpL r xs ≠ 0) := Lib.hid fun p' r q h => by
       rw [hk1] at h
       have := congrArg List.length h
       simp [pl] at this
      have Hmi2 := Lib.hid (hmi.out.next (n := N) Hle.out Hne.out)
      clear hk1 Hne
      refine Reg.wp_region_vals mixed (by kernel_rfl) [(15, .int .i64 (k : Nat)), (16, .bool false), (17, .bool false), (18, undef), (19, undef), (20, undef), (21, undef), (22, undef), (23, undef), (24, undef), (25, undef), (26, undef), (27, undef), (28, .bool false)] 53 rfl (by kernel_rfl) ?_ ?_
      · intro F hF w' hB
        refine ⟨?_, ?_, ?_, ?_, ?_, ?_, ?_, ?_, ?_, ?_, ?_, ?_, ?_, ?_, trivial⟩
        · exact Reg.doesV_val (ev_move rfl) (by rw [hF]; kernel_rfl) (by rw [hF]; kernel_rfl)
        · exact Reg.doesV_val (by rw [ev_gtC5 (k : Int) 0 rfl (by rw [hF]; kernel_rfl), hk0]) (by rw [hF]; kernel_rfl) (by rw [hF]; kernel_rfl)
        · exact Reg.doesV_val (ev_move rfl) (by rw [hF]; kernel_rfl) (by rw [hF]; kernel_rfl)
        · exact Reg.doesV_skip (by rw [hF]; kernel_rfl) (by rw [hF]; kernel_rfl)
        · exact Reg.doesV_skip (by rw [hF]; kernel_rfl) (by rw [hF]; kernel_rfl)
        · exact Reg.doesV_skip (by rw [hF]; kernel_rfl) (by rw [hF]; kernel_rfl)
        · exact Reg.doesV_skip (by rw [hF]; kernel_rfl) (by rw [hF]; kernel_rfl)
        · exact Reg.doesV_skip (by rw [hF]; kernel_rfl) (by rw [hF]; kernel_rfl)
        · exact Reg.doesV_skip (by rw [hF]; kernel_rfl) (by rw [hF]; kernel_rfl)
        · exact Reg.doesV_skip (by rw [hF]; kernel_rfl) (by rw [hF]; kernel_rfl)
        · exact Reg.doesV_skip (by rw [hF]; kernel_rfl) (by rw [hF]; kernel_rfl)
        · exact Reg.doesV_skip (by rw [hF]; kernel_rfl) (by rw [hF]; kernel_rfl)
        · exact Reg.doesV_skip (by rw [hF]; kernel_rfl) (by rw [hF]; kernel_rfl)
        · exact Reg.doesV_val (ev_pick false rfl (by rw [hF]; kernel_rfl)) (by rw [hF]; kernel_rfl) (by rw [hF]; kernel_rfl)
      · intro w8 hB
        simp only [Reg.putAll, Act.put, List.setIfInBounds_toArray, List.set_cons_zero, List.set_cons_succ]
        have Hb8 := Lib.hid (below_via Hb1.out hB)
        have HbW8 := Lib.hid (below_via Hbw.out hB)
        have g0 := (hB.cell (p := ⟨wr.heap.size, 0, none⟩) lg1).trans dg0.out
        have g1 := (hB.cell (p := ⟨wr.heap.size, 1, none⟩) lg1).trans dg1.out
        have lg8 : wr.heap.size < w8.heap.size := Nat.lt_of_lt_of_le lg1 hB.size
        have HOr : Hid (∀ k, (Value.slice A' m c').ownBlock = some k → k < wr.heap.size) := Lib.hid fun k hk => (ho.out.lt k hk).2
        have HO8 := Lib.hid (ho.out.after HbW8.out)
        have HA8 := Lib.hid (hap.out.after HbW8.out)
        have Hx8 := Lib.hid (Hx.out.after HbW8.out)
        clear hB dg0 dg1 Hb1 Hbw ho hap Hx Hx1
        have G0 := Lib.hid g0
        have G1 := Lib.hid g1
        have Hjn : Hid (joinR [(⟨xA, xn, xc, xs⟩ : Hd)] = xs) := Lib.hid (by simp [joinR])
        go_wp2_with fail
        go_region_held3 (fun w' => w'.cell? ⟨wr.heap.size, 0, none⟩ = some (.slice xA xn xc) ∧ w'.cell? ⟨wr.heap.size, 1, none⟩ = some (.int .i64 N)) (first | exact HGC9.out | exact HGCa.out | go_keep)
         (first
           | (go_at_call 33
              have hbj := Lib.hid (((Below.refl w8.heap.size w8).alloc (Nat.le_refl _) (.cells #[.slice xA xn xc] 47)).drew)
              have hsj : Hid (SlG (w8.alloc (.cells #[.slice xA xn xc] 47)).drew (some ⟨w8.heap.size, 0, none⟩) 1 rdH [⟨xA, xn, xc, xs⟩]) := Lib.hid ((SlG.new hOk.len [⟨xA, xn, xc, xs⟩] rfl).after (Below.refl _ _).drew)
              refine (join_c (some ⟨w8.heap.size, 0, none⟩) 1 1 [⟨xA, xn, xc, xs⟩] (w8.alloc (.cells #[.slice xA xn xc] 47)).drew rfl (by unfold maxLen; omega) hsj.out (fun h' hh' => by rw [List.mem_singleton] at hh'; subst hh'; exact Hx8.out.hd.after hbj.out) (by rw [Hjn.out]; exact Hxl.out)).mono ?_
              rintro en w9 ⟨v9, rfl, hb9, hv9⟩
              rw [Hjn.out] at hv9
              obtain ⟨h9, rfl, hIn9, hxs9, hbl9, hnc9⟩ := hv9.hd
              have Hb9 := Lib.hid (below_via Hb8.out (below_via hbj.out hb9))
              have Hb89 := Lib.hid (below_via hbj.out hb9)
              have HGC9 : Hid (w9.cell? ⟨wr.heap.size, 0, none⟩ = some (.slice xA xn xc) ∧ w9.cell? ⟨wr.heap.size, 1, none⟩ = some (.int .i64 N)) := Lib.hid ⟨(Hb89.out.cell lg8).trans G0.out, (Hb89.out.cell lg8).trans G1.out⟩
              have HO9 := Lib.hid (HO8.out.after Hb89.out)
              have Hs89 : Hid (w8.heap.size ≤ w9.heap.size) := Lib.hid Hb89.out.size
              have HOl : Hid (∀ k, (Value.slice A' m c').ownBlock = some k → k < w8.heap.size) := Lib.hid fun k hk => (HO8.out.lt k hk).2
              have HA9 := Lib.hid (HA8.out.after Hb89.out)
              have Hn9 := Lib.hid (NewC.of hIn9 hxs9 hbl9 Hx8.out hnc9)
              obtain ⟨h9A, h9n, h9c, h9xs⟩ := h9
              dsimp only [Hd.v]
              clear hv9 hIn9 hxs9 hbl9 hnc9 hb9 hbj hsj HO8 HA8 Hb8)
           | (refine step_appL cOk (by rfl) (.tmp 41) (.tmp 49) (by rfl) W.heap.size (.slice A' m c') ol [⟨⟨h9A, h9n, h9c, h9xs⟩, N⟩] (by rfl) (HO9.out.after ((Below.refl _ _).alloc (Nat.le_refl _) _)) (some ⟨w9.heap.size, 0, none⟩) 1 1 (by rfl) rfl (SlG.new cOk.len [⟨⟨h9A, h9n, h9c, h9xs⟩, N⟩] rfl) (by rw [hol.out]; simp [maxLen]; omega) (by rw [hol.out]; simp; omega) (by have := Hb9.out.size; simp; omega) ?_
              intro A2 c2 w2 hv hg hloc
              rw [hol.out] at hv hloc ⊢
              have HX := Lib.hid (below_one w9 (.cells #[.slice h9A h9n h9c, .int .i64 N] 49))
              have Hv2 := Lib.hid hv
              have Hb2 := Lib.hid ((below_al Hb9.out (.cells #[.slice h9A h9n h9c, .int .i64 N] 49)).grown hg (by have := Hb9.out.size; simp; omega) (fun k hk => (HO9.out.lt k hk).1))
              have HA2 := Lib.hid (HA9.out.app HX.out hg hloc Hn9.out.ct (fun b' off' hb' => ⟨fun e => by have h1 := (HOl.out b' e); have h2 := (Hn9.out.lt b' off' hb').1; simp at h2; omega, (Hn9.out.lt b' off' hb').2⟩) HO9.out.plain)
              have HGCa : Hid (w2.cell? ⟨wr.heap.size, 0, none⟩ = some (.slice xA xn xc) ∧ w2.cell? ⟨wr.heap.size, 1, none⟩ = some (.int .i64 N)) := Lib.hid (by
               have hlt9 : wr.heap.size < w9.heap.size := Nat.lt_of_lt_of_le lg8 Hs89.out
               have hne : some wr.heap.size ≠ (Value.slice A' m c').ownBlock := fun e => by have := HOr.out _ e.symm; omega
               have hbk : w2.heap[wr.heap.size]? = w9.heap[wr.heap.size]? := (hg.block _ (Nat.lt_of_lt_of_le hlt9 HX.out.size) hne).trans (HX.out.block _ hlt9)
               refine ⟨?_, ?_⟩
               · rw [← HGC9.out.1]; simp only [World.cell?, hbk]
               · rw [← HGC9.out.2]; simp only [World.cell?, hbk])
              clear hv hg hloc HX))
        have Hmi3 : Hid (MI (pl (ls.take (k + 1))) (pl (ol ++ [⟨⟨h9A, h9n, h9c, h9xs⟩, N⟩]))) := Lib.hid (by
         rw [Hpk.out, pl_app, pl_one]
         have e : h9xs = xs := Hn9.out.eq
         simp only [e]
         exact Hmi2.out)
        have Hol3 : Hid ((ol ++ [(⟨⟨h9A, h9n, h9c, h9xs⟩, N⟩ : Ct)]).length = m + 1) := Lib.hid (by rw [List.length_append, hol.out]; rfl)
        clear Hmi2 Hpk HGC9 HGCa HO9 HA9 Hn9 Hb9 Hb89
        go_wp2
        go_roundw
        case rel => exact ⟨k + 1, m + 1, A2, c2, ol ++ [⟨⟨h9A, h9n, h9c, h9xs⟩, N⟩], by omega, by omega, by go_num, rfl, Hol3, Hb2, Hv2, HA2, Hmi3⟩
        case measure => simp [intOf]; omega
    · obtain ⟨j, hkj⟩ : ∃ j, k = j + 1 := ⟨k - 1, by have := of_decide_eq_true hk0; omega⟩
      have hjn : j < n := by omega
      have hjx : k ≤ 9223372036854775807 := by omega
      obtain ⟨⟨⟨yA, yn, yc, ys⟩, yN⟩, hyj, hy, dq⟩ := hprev.out j hkj
      have Hy := Lib.hid (hy.after Hbw.out)
      have dq := Lib.hid ((Hbw.out.cell (p := ⟨b, off + j * 2, none⟩) l0).trans dq)
      have Hyj := Lib.hid hyj
      clear hy hyj
      cases hC : cmpL ys xs == 0
      · have Hne : Hid (∀ p' r q, pl (ls.take k) = p' ++ [(r, q)] → cmpL r xs ≠ 0) := Lib.hid fun p' r q h => by
         rw [hkj, pl_take_succ Hyj.out] at h
         have := (List.cons.inj (List.append_inj' h rfl).2).1
         have e := congrArg Prod.fst this
         simp only at e
         rw [← e]
         simpa using hC
        have Hmi2 := Lib.hid (hmi.out.next (n := N) Hle.out Hne.out)
        clear Hne
        refine Reg.wp_region_vals mixed (by kernel_rfl) [(15, .int .i64 (k : Nat)), (16, .bool true), (17, .bool true), (18, .slice (some ⟨b, off, none⟩) n c), (19, .int .i64 (k : Nat)), (20, .int .i64 (j : Nat)), (21, .pointer (some ⟨b, off + j * 2, none⟩)), (22, .pointer (some ⟨b, off + j * 2, none⟩)), (23, .slice yA yn yc), (24, .pointer (some ⟨wr.heap.size, 0, none⟩)), (25, .slice xA xn xc), (26, .int .i64 (cmpL ys xs)), (27, .bool false), (28, .bool false)] 53 rfl (by kernel_rfl) ?_ ?_
        · intro F hF w' hB
          have q0 := (hB.cell (p := ⟨b, off + j * 2, none⟩) l1).trans dq.out
          have jx := (hB.cell (p := ⟨wr.heap.size, 0, none⟩) lg1).trans dg0.out
          have ix := Hx1.out.after hB
          have iy := Hy.out.after hB
          refine ⟨?_, ?_, ?_, ?_, ?_, ?_, ?_, ?_, ?_, ?_, ?_, ?_, ?_, ?_, trivial⟩
          · exact Reg.doesV_val (ev_move rfl) (by rw [hF]; kernel_rfl) (by rw [hF]; kernel_rfl)
          · exact Reg.doesV_val (by rw [ev_gtC5 (k : Int) 0 rfl (by rw [hF]; kernel_rfl), hk0]) (by rw [hF]; kernel_rfl) (by rw [hF]; kernel_rfl)
          · exact Reg.doesV_val (ev_move rfl) (by rw [hF]; kernel_rfl) (by rw [hF]; kernel_rfl)
          · exact Reg.doesV_val (ev_move rfl) (by rw [hF]; kernel_rfl) (by rw [hF]; kernel_rfl)
          · exact Reg.doesV_val (ev_move rfl) (by rw [hF]; kernel_rfl) (by rw [hF]; kernel_rfl)
          · exact Reg.doesV_val (ev_dec5 k j hkj hjx rfl (by rw [hF]; kernel_rfl)) (by rw [hF]; kernel_rfl) (by rw [hF]; kernel_rfl)
          · exact Reg.doesV_val (ev_idxK (b := b) (off := off) (n := n) (c := c) (k := j) hjn rfl (by rw [hF]; kernel_rfl) (by rw [hF]; kernel_rfl)) (by rw [hF]; kernel_rfl) (by rw [hF]; kernel_rfl)
          · exact Reg.doesV_val (ev_c0 (b := b) (off := off + j * 2) rfl (by rw [hF]; kernel_rfl)) (by rw [hF]; kernel_rfl) (by rw [hF]; kernel_rfl)
          · exact Reg.doesV_val (ev_ldR (A := yA) (n := yn) (c := yc) q0 rfl (by rw [hF]; kernel_rfl)) (by rw [hF]; kernel_rfl) (by rw [hF]; kernel_rfl)
          · exact Reg.doesV_val (ev_c0 (b := wr.heap.size) (off := 0) rfl (by rw [hF]; kernel_rfl)) (by rw [hF]; kernel_rfl) (by rw [hF]; kernel_rfl)
          · exact Reg.doesV_val (ev_ldR (A := xA) (n := xn) (c := xc) jx rfl (by rw [hF]; kernel_rfl)) (by rw [hF]; kernel_rfl) (by rw [hF]; kernel_rfl)
          · exact Reg.doesV_call (compareL_c yA xA yn xn yc xc ys xs w' iy.hd.len ix.hd.len iy.hd.max ix.hd.max iy.hd.sl ix.hd.sl) (ev_call enKeyCompare rfl (by rw [hF]; kernel_rfl)) (by rw [hF]; kernel_rfl) (by rw [hF]; kernel_rfl)
          · exact Reg.doesV_val (by rw [ev_eqC5 (cmpL ys xs) 0 rfl (by rw [hF]; kernel_rfl), hC]) (by rw [hF]; kernel_rfl) (by rw [hF]; kernel_rfl)
          · exact Reg.doesV_val (ev_pick true rfl (by rw [hF]; kernel_rfl)) (by rw [hF]; kernel_rfl) (by rw [hF]; kernel_rfl)
        · intro w8 hB
          simp only [Reg.putAll, Act.put, List.setIfInBounds_toArray, List.set_cons_zero, List.set_cons_succ]
          have Hb8 := Lib.hid (below_via Hb1.out hB)
          have HbW8 := Lib.hid (below_via Hbw.out hB)
          have g0 := (hB.cell (p := ⟨wr.heap.size, 0, none⟩) lg1).trans dg0.out
          have g1 := (hB.cell (p := ⟨wr.heap.size, 1, none⟩) lg1).trans dg1.out
          have lg8 : wr.heap.size < w8.heap.size := Nat.lt_of_lt_of_le lg1 hB.size
          have HOr : Hid (∀ k, (Value.slice A' m c').ownBlock = some k → k < wr.heap.size) := Lib.hid fun k hk => (ho.out.lt k hk).2
          have HO8 := Lib.hid (ho.out.after HbW8.out)
          have HA8 := Lib.hid (hap.out.after HbW8.out)
          have Hx8 := Lib.hid (Hx.out.after HbW8.out)
          clear hB dg0 dg1 Hb1 Hbw ho hap Hx Hx1
          have G0 := Lib.hid g0
          have G1 := Lib.hid g1
          have Hjn : Hid (joinR [(⟨xA, xn, xc, xs⟩ : Hd)] = xs) := Lib.hid (by simp [joinR])
          go_wp2_with fail
          go_region_held3 (fun w' => w'.cell? ⟨wr.heap.size, 0, none⟩ = some (.slice xA xn xc) ∧ w'.cell? ⟨wr.heap.size, 1, none⟩ = some (.int .i64 N)) (first | exact HGC9.out | exact HGCa.out | go_keep)
           (first
             | (go_at_call 33
                have hbj := Lib.hid (((Below.refl w8.heap.size w8).alloc (Nat.le_refl _) (.cells #[.slice xA xn xc] 47)).drew)
                have hsj : Hid (SlG (w8.alloc (.cells #[.slice xA xn xc] 47)).drew (some ⟨w8.heap.size, 0, none⟩) 1 rdH [⟨xA, xn, xc, xs⟩]) := Lib.hid ((SlG.new hOk.len [⟨xA, xn, xc, xs⟩] rfl).after (Below.refl _ _).drew)
                refine (join_c (some ⟨w8.heap.size, 0, none⟩) 1 1 [⟨xA, xn, xc, xs⟩] (w8.alloc (.cells #[.slice xA xn xc] 47)).drew rfl (by unfold maxLen; omega) hsj.out (fun h' hh' => by rw [List.mem_singleton] at hh'; subst hh'; exact Hx8.out.hd.after hbj.out) (by rw [Hjn.out]; exact Hxl.out)).mono ?_
                rintro en w9 ⟨v9, rfl, hb9, hv9⟩
                rw [Hjn.out] at hv9
                obtain ⟨h9, rfl, hIn9, hxs9, hbl9, hnc9⟩ := hv9.hd
                have Hb9 := Lib.hid (below_via Hb8.out (below_via hbj.out hb9))
                have Hb89 := Lib.hid (below_via hbj.out hb9)
                have HGC9 : Hid (w9.cell? ⟨wr.heap.size, 0, none⟩ = some (.slice xA xn xc) ∧ w9.cell? ⟨wr.heap.size, 1, none⟩ = some (.int .i64 N)) := Lib.hid ⟨(Hb89.out.cell lg8).trans G0.out, (Hb89.out.cell lg8).trans G1.out⟩
                have HO9 := Lib.hid (HO8.out.after Hb89.out)
                have Hs89 : Hid (w8.heap.size ≤ w9.heap.size) := Lib.hid Hb89.out.size
                have HOl : Hid (∀ k, (Value.slice A' m c').ownBlock = some k → k < w8.heap.size) := Lib.hid fun k hk => (HO8.out.lt k hk).2
                have HA9 := Lib.hid (HA8.out.after Hb89.out)
                have Hn9 := Lib.hid (NewC.of hIn9 hxs9 hbl9 Hx8.out hnc9)
                obtain ⟨h9A, h9n, h9c, h9xs⟩ := h9
                dsimp only [Hd.v]
                clear hv9 hIn9 hxs9 hbl9 hnc9 hb9 hbj hsj HO8 HA8 Hb8)
             | (refine step_appL cOk (by rfl) (.tmp 41) (.tmp 49) (by rfl) W.heap.size (.slice A' m c') ol [⟨⟨h9A, h9n, h9c, h9xs⟩, N⟩] (by rfl) (HO9.out.after ((Below.refl _ _).alloc (Nat.le_refl _) _)) (some ⟨w9.heap.size, 0, none⟩) 1 1 (by rfl) rfl (SlG.new cOk.len [⟨⟨h9A, h9n, h9c, h9xs⟩, N⟩] rfl) (by rw [hol.out]; simp [maxLen]; omega) (by rw [hol.out]; simp; omega) (by have := Hb9.out.size; simp; omega) ?_
                intro A2 c2 w2 hv hg hloc
                rw [hol.out] at hv hloc ⊢
                have HX := Lib.hid (below_one w9 (.cells #[.slice h9A h9n h9c, .int .i64 N] 49))
                have Hv2 := Lib.hid hv
                have Hb2 := Lib.hid ((below_al Hb9.out (.cells #[.slice h9A h9n h9c, .int .i64 N] 49)).grown hg (by have := Hb9.out.size; simp; omega) (fun k hk => (HO9.out.lt k hk).1))
                have HA2 := Lib.hid (HA9.out.app HX.out hg hloc Hn9.out.ct (fun b' off' hb' => ⟨fun e => by have h1 := (HOl.out b' e); have h2 := (Hn9.out.lt b' off' hb').1; simp at h2; omega, (Hn9.out.lt b' off' hb').2⟩) HO9.out.plain)
                have HGCa : Hid (w2.cell? ⟨wr.heap.size, 0, none⟩ = some (.slice xA xn xc) ∧ w2.cell? ⟨wr.heap.size, 1, none⟩ = some (.int .i64 N)) := Lib.hid (by
                 have hlt9 : wr.heap.size < w9.heap.size := Nat.lt_of_lt_of_le lg8 Hs89.out
                 have hne : some wr.heap.size ≠ (Value.slice A' m c').ownBlock := fun e => by have := HOr.out _ e.symm; omega
                 have hbk : w2.heap[wr.heap.size]? = w9.heap[wr.heap.size]? := (hg.block _ (Nat.lt_of_lt_of_le hlt9 HX.out.size) hne).trans (HX.out.block _ hlt9)
                 refine ⟨?_, ?_⟩
                 · rw [← HGC9.out.1]; simp only [World.cell?, hbk]
                 · rw [← HGC9.out.2]; simp only [World.cell?, hbk])
                clear hv hg hloc HX))
          have Hmi3 : Hid (MI (pl (ls.take (k + 1))) (pl (ol ++ [⟨⟨h9A, h9n, h9c, h9xs⟩, N⟩]))) := Lib.hid (by
           rw [Hpk.out, pl_app, pl_one]
           have e : h9xs = xs := Hn9.out.eq
           simp only [e]
           exact Hmi2.out)
          have Hol3 : Hid ((ol ++ [(⟨⟨h9A, h9n, h9c, h9xs⟩, N⟩ : Ct)]).length = m + 1) := Lib.hid (by rw [List.length_append, hol.out]; rfl)
          clear Hmi2 Hpk HGC9 HGCa HO9 HA9 Hn9 Hb9 Hb89
          go_wp2
          go_roundw
          case rel => exact ⟨k + 1, m + 1, A2, c2, ol ++ [⟨⟨h9A, h9n, h9c, h9xs⟩, N⟩], by omega, by omega, by go_num, rfl, Hol3, Hb2, Hv2, HA2, Hmi3⟩
          case measure => simp [intOf]; omega
      · refine Reg.wp_region_vals mixed (by kernel_rfl) [(15, .int .i64 (k : Nat)), (16, .bool true), (17, .bool true), (18, .slice (some ⟨b, off, none⟩) n c), (19, .int .i64 (k : Nat)), (20, .int .i64 (j : Nat)), (21, .pointer (some ⟨b, off + j * 2, none⟩)), (22, .pointer (some ⟨b, off + j * 2, none⟩)), (23, .slice yA yn yc), (24, .pointer (some ⟨wr.heap.size, 0, none⟩)), (25, .slice xA xn xc), (26, .int .i64 (cmpL ys xs)), (27, .bool true), (28, .bool true)] 53 rfl (by kernel_rfl) ?_ ?_
        · intro F hF w' hB
          have q0 := (hB.cell (p := ⟨b, off + j * 2, none⟩) l1).trans dq.out
          have jx := (hB.cell (p := ⟨wr.heap.size, 0, none⟩) lg1).trans dg0.out
          have ix := Hx1.out.after hB
          have iy := Hy.out.after hB
          refine ⟨?_, ?_, ?_, ?_, ?_, ?_, ?_, ?_, ?_, ?_, ?_, ?_, ?_, ?_, trivial⟩
          · exact Reg.doesV_val (ev_move rfl) (by rw [hF]; kernel_rfl) (by rw [hF]; kernel_rfl)
          · exact Reg.doesV_val (by rw [ev_gtC5 (k : Int) 0 rfl (by rw [hF]; kernel_rfl), hk0]) (by rw [hF]; kernel_rfl) (by rw [hF]; kernel_rfl)
          · exact Reg.doesV_val (ev_move rfl) (by rw [hF]; kernel_rfl) (by rw [hF]; kernel_rfl)
          · exact Reg.doesV_val (ev_move rfl) (by rw [hF]; kernel_rfl) (by rw [hF]; kernel_rfl)
          · exact Reg.doesV_val (ev_move rfl) (by rw [hF]; kernel_rfl) (by rw [hF]; kernel_rfl)
          · exact Reg.doesV_val (ev_dec5 k j hkj hjx rfl (by rw [hF]; kernel_rfl)) (by rw [hF]; kernel_rfl) (by rw [hF]; kernel_rfl)
          · exact Reg.doesV_val (ev_idxK (b := b) (off := off) (n := n) (c := c) (k := j) hjn rfl (by rw [hF]; kernel_rfl) (by rw [hF]; kernel_rfl)) (by rw [hF]; kernel_rfl) (by rw [hF]; kernel_rfl)
          · exact Reg.doesV_val (ev_c0 (b := b) (off := off + j * 2) rfl (by rw [hF]; kernel_rfl)) (by rw [hF]; kernel_rfl) (by rw [hF]; kernel_rfl)
          · exact Reg.doesV_val (ev_ldR (A := yA) (n := yn) (c := yc) q0 rfl (by rw [hF]; kernel_rfl)) (by rw [hF]; kernel_rfl) (by rw [hF]; kernel_rfl)
          · exact Reg.doesV_val (ev_c0 (b := wr.heap.size) (off := 0) rfl (by rw [hF]; kernel_rfl)) (by rw [hF]; kernel_rfl) (by rw [hF]; kernel_rfl)
          · exact Reg.doesV_val (ev_ldR (A := xA) (n := xn) (c := xc) jx rfl (by rw [hF]; kernel_rfl)) (by rw [hF]; kernel_rfl) (by rw [hF]; kernel_rfl)
          · exact Reg.doesV_call (compareL_c yA xA yn xn yc xc ys xs w' iy.hd.len ix.hd.len iy.hd.max ix.hd.max iy.hd.sl ix.hd.sl) (ev_call enKeyCompare rfl (by rw [hF]; kernel_rfl)) (by rw [hF]; kernel_rfl) (by rw [hF]; kernel_rfl)
          · exact Reg.doesV_val (by rw [ev_eqC5 (cmpL ys xs) 0 rfl (by rw [hF]; kernel_rfl), hC]) (by rw [hF]; kernel_rfl) (by rw [hF]; kernel_rfl)
          · exact Reg.doesV_val (ev_pick true rfl (by rw [hF]; kernel_rfl)) (by rw [hF]; kernel_rfl) (by rw [hF]; kernel_rfl)
        · intro w8 hB
          simp only [Reg.putAll, Act.put, List.setIfInBounds_toArray, List.set_cons_zero, List.set_cons_succ]
          have Hb8 := Lib.hid (below_via Hb1.out hB)
          have HbW8 := Lib.hid (below_via Hbw.out hB)
          have g0 := (hB.cell (p := ⟨wr.heap.size, 0, none⟩) lg1).trans dg0.out
          have g1 := (hB.cell (p := ⟨wr.heap.size, 1, none⟩) lg1).trans dg1.out
          have lg8 : wr.heap.size < w8.heap.size := Nat.lt_of_lt_of_le lg1 hB.size
          have HOr : Hid (∀ k, (Value.slice A' m c').ownBlock = some k → k < wr.heap.size) := Lib.hid fun k hk => (ho.out.lt k hk).2
          have HO8 := Lib.hid (ho.out.after HbW8.out)
          have HA8 := Lib.hid (hap.out.after HbW8.out)
          have Hx8 := Lib.hid (Hx.out.after HbW8.out)
          clear hB dg0 dg1 Hb1 Hbw ho hap Hx Hx1
          obtain ⟨M', hM'⟩ : ∃ M', ∃ q, pl ol = M' ++ [(ys, q)] := by
           rcases hmi.out.last with ⟨h1, _⟩ | ⟨p', M', r, n', q, h1, h2⟩
           · rw [hkj, pl_take_succ Hyj.out] at h1
             have := congrArg List.length h1
             simp at this
           · rw [hkj, pl_take_succ Hyj.out] at h1
             have e := congrArg Prod.fst (List.cons.inj (List.append_inj' h1 rfl).2).1
             simp only at e
             subst e
             exact ⟨M', q, h2⟩
          obtain ⟨q, hM'⟩ := hM'
          obtain ⟨ol', h', N0, rfl, hh', hq', hol'⟩ := pl_split hM'
          subst hq'
          obtain ⟨m', hm'⟩ : ∃ m', m = m' + 1 := ⟨ol'.length, by rw [← hol.out, List.length_append]; rfl⟩
          subst hm'
          have Hol' : Hid (ol'.length = m') := Lib.hid (by have := hol.out; rw [List.length_append] at this; simpa using this)
          obtain ⟨gb, rfl, hgb⟩ : ∃ gb, A' = some ⟨gb, 0, none⟩ ∧ ∃ cur, w8.heap[gb]? = some (.cells cur 49 (0, 0)) := by
           rcases HO8.out.2 with ⟨hv, _⟩ | ⟨g', cap, cur, hv, _, hh, _⟩
           · cases hv
           · injection hv with e1
             exact ⟨g', e1, cur, hh⟩
          obtain ⟨cur, hcur⟩ := hgb
          have hfz : ∀ i, w8.frozen? ⟨gb, i, none⟩ = false := fun i => frozen_of_row _ _ _ _ _ hcur
          have fz := hfz (m' * 2 + 1)
          obtain ⟨A9, c9, e9, e9c, e9d, hs9⟩ := HO8.out.sl cOk.len
          injection e9 with e9 e9a e9b
          subst e9
          clear e9a e9b e9c e9d
          obtain ⟨lgb, cb0, cb1⟩ := hs9.cell2 (k := m') (x := ⟨h', N0⟩) (by rw [List.getElem?_append_right (by rw [Hol'.out]; exact Nat.le_refl _), Hol'.out, Nat.sub_self]; rfl)
          simp only [Nat.zero_add] at cb1
          have hN0 := HM9.out (h'.xs, N0) (pl_mem (x := ⟨h', N0⟩) (List.mem_append_right _ (List.mem_singleton.2 rfl)))
          simp only at hN0
          have hN1 := HN.out
          have hw : IntKind.i64.wrap (N0 + N) = N0 + N := by rw [IntKind.wrap_i64]; omega
          have hsub : IntKind.i64.wrap (m' : Int) = m' := by rw [IntKind.wrap_i64]; omega
          have hm0 : (0 : Int) ≤ m' := by omega
          have hm1 : (m' : Int) < m' + 1 := by omega
          have hgW : W.heap.size ≤ gb := (HO8.out.lt gb rfl).1
          have Hb2 := Lib.hid (Hb8.out.setCell (p := ⟨gb, m' * 2 + 1, none⟩) hgW (.int .i64 (N0 + N)))
          have Hv2 := Lib.hid (OwnG.setN HO8.out Hol'.out (N0 + N))
          have HA2 : Hid (ApartC (w8.setCell ⟨gb, m' * 2 + 1, none⟩ (.int .i64 (N0 + N))) (some ⟨gb, 0, none⟩) (ol' ++ [⟨h', N0 + N⟩])) := Lib.hid (fun c hc => by
           rcases List.mem_append.1 hc with hc | hc
           · have h1 := ((HA8.out c (List.mem_append_left _ hc)).2 gb 0 rfl).set (m' * 2 + 1) (.int .i64 (N0 + N))
             exact ⟨h1.1, fun g o e => by cases e; exact h1⟩
           · rw [List.mem_singleton] at hc
             subst hc
             have h1 := ((HA8.out ⟨h', N0⟩ (by simp)).2 gb 0 rfl).set (m' * 2 + 1) (.int .i64 (N0 + N))
             have h2 : OutC (w8.setCell ⟨gb, m' * 2 + 1, none⟩ (.int .i64 (N0 + N))) gb ⟨h', N0 + N⟩ := ⟨⟨h1.1.hd, h1.1.sz, h1.1.n64, by simp only; omega, h1.1.room⟩, h1.2⟩
             exact ⟨h2.1, fun g o e => by cases e; exact h2⟩)
          have Hmi3 : Hid (MI (pl (ls.take (k + 1))) (pl (ol' ++ [⟨h', N0 + N⟩]))) := Lib.hid (by
           rw [Hpk.out, pl_app, pl_one, hh', hol']
           have h1 := hmi.out
           rw [hM'] at h1
           exact h1.same (by simpa using hC))
          have Hol3 : Hid ((ol' ++ [(⟨h', N0 + N⟩ : Ct)]).length = m' + 1) := Lib.hid (by rw [List.length_append, Hol'.out]; rfl)
          clear hs9 cb0 hfz hcur HO8 HA8 Hb8 hmi hM' hh' hol' hN0 hN1 Hpk HM9 HN g0 hkj hjx hprev Hyj dq Hy hC
          have Hb3 := Lib.hid Hb2.out.drew
          have Hv3 := Lib.hid (Hv2.out.after (Below.refl _ _).drew)
          have HA3 := Lib.hid (HA2.out.after (Below.refl _ _).drew)
          clear Hb2 Hv2 HA2
          go_wp2_with fail
          go_region
          clear cb1 fz
          go_wp2
          go_roundw
          case rel => exact ⟨k + 1, m' + 1, some ⟨gb, 0, none⟩, c', ol' ++ [⟨h', N0 + N⟩], by omega, by omega, by go_num, rfl, Hol3, Hb3, Hv3, HA3, Hmi3⟩
          case measure => simp [intOf]; omega
  · obtain rfl : k = n := by omega
    have Ht : Hid (ls.take k = ls) := Lib.hid (List.take_of_length_le (by rw [Hls.out]; exact Nat.le_refl _))
    have HF : Hid (MrgSaid w A ks A' m c' ol wr) := Lib.hid ⟨hol.out, by rw [Hn.out]; exact hmk, ho.out.mono HS2.out.size, hap.out, ⟨pl ls, HS2.out.perm.map _, by have := hmi.out; rw [Ht.out] at this; exact this⟩, fun w0 B h1 h2 h3 => by
     have h4 := HS2.out.below w0 B h1 h2 h3
     exact h4.trans (hb.out.mono (Nat.le_trans h3 h4.size))⟩
    clear hol hb ho hap hmi Ht
    go_wp2
    go_ret
    exact ⟨A', m, c', ol, rfl, HF.out⟩
theorem kOk : ElOk Tryz.prog 29 49 2 32 (.agg #[.slice none 0 0, .int .i64 0]) rdC where
 under := Tryz.underlying29
 info := by kernel_rfl
 zs := rfl
 pos := by decide
 len := fun _ => rfl
 one := fun x u hu => by
  simp [rdC] at hu
  rcases hu with rfl | rfl <;> rfl
theorem MrgSaid.bg {w w' : World} {A A' : Option Addr} {ks ol : List Ct} {m c' : Nat} (h : MrgSaid w A ks A' m c' ol w') (hm : ks.length ≤ maxLen) : BgIn w' A' m ol := by
 obtain ⟨A2, c2, e2, _, _, hs⟩ := h.own.sl cOk.len
 injection e2 with e2
 subst e2
 exact ⟨h.len, Nat.le_trans h.le hm, hs, h.apart.each⟩
theorem mayR_len {xs : List Val} (h : mayR xs = true) : xs.length ≤ 40 := by
 unfold mayR at h
 rw [Bool.and_eq_true, decide_eq_true_eq] at h
 exact h.1
def idxF (p : Int → Bool) : List Ct → Nat → Int
 | [], _ => -1
 | x :: l, k => if p x.N then (k : Int) else idxF p l (k + 1)
theorem idxF_drop (p : Int → Bool) (cs : List Ct) (k : Nat) (x : Ct) (h : cs[k]? = some x) : idxF p (cs.drop k) k = if p x.N then (k : Int) else idxF p (cs.drop (k + 1)) (k + 1) := by
 have h1 := List.drop_eq_getElem_cons (List.getElem?_eq_some_iff.1 h).1
 rw [(List.getElem?_eq_some_iff.1 h).2] at h1
 rw [h1, idxF]
theorem idxF_spec (p : Int → Bool) : ∀ (l : List Ct) (k : Nat), (idxF p l k = -1 ∧ ∀ x ∈ l, p x.N = false) ∨ ∃ i x, idxF p l k = ((k + i : Nat) : Int) ∧ l[i]? = some x ∧ p x.N = true ∧ ∀ y ∈ l.take i, p y.N = false
 | [], k => .inl ⟨rfl, nofun⟩
 | x :: l, k => by
   cases h : p x.N
   · rcases idxF_spec p l (k + 1) with ⟨h1, h2⟩ | ⟨i, y, h1, h2, h3, h4⟩
     · refine .inl ⟨by rw [idxF, h, if_neg (by simp), h1], fun y hy => ?_⟩
       rcases List.mem_cons.1 hy with rfl | hy
       · exact h
       · exact h2 y hy
     · refine .inr ⟨i + 1, y, by rw [idxF, h, if_neg (by simp), h1]; congr 1; omega, by simpa using h2, h3, fun z hz => ?_⟩
       rw [List.take_succ_cons] at hz
       rcases List.mem_cons.1 hz with rfl | hz
       · exact h
       · exact h4 z hz
   · exact .inr ⟨0, x, by rw [idxF, h, if_pos rfl]; rfl, rfl, h, nofun⟩
def Asks (g : FuncId) (p : Int → Bool) : Prop := ∀ (A : Option Addr) (n c : Nat) (N : Int) (w : World), Calls Tryz.prog g #[.agg #[.slice A n c, .int .i64 N]] w fun e w' => e = .returned (.bool (p N)) ∧ Gr w w'
theorem asksBey : Asks 60 beyB := beyond_g
theorem asksZero : Asks 66 (fun N => N == 0) := zero_g
set_option maxHeartbeats 2000000 in
theorem idx_c (g : FuncId) (p : Int → Bool) (hp : Asks g p) (eg : ∀ args w, (callFunc g args).run Tryz.prog w = .ok (.enter g args) w) (A : Option Addr) (n c : Nat) (cs : List Ct) (w : World) (hB : BgIn w A n cs) :
 Calls Tryz.prog 78 #[.slice A n c, .func (.func g) #[] #[]] w fun e w' => e = .returned (.int .i64 (idxF p cs 0)) ∧ Below w.heap.size w w' := by
 obtain ⟨R, hR⟩ : ∃ R, idxF p cs 0 = R := ⟨_, rfl⟩
 rw [hR]
 have HR := Lib.hid hR
 have HB := Lib.hid hB
 have Hp := Lib.hid hp
 have hmx : n ≤ 9223372036854775807 := hB.max
 clear hB hR hp
 go_enter Tryz.func78, Tryz.ntmps78
 go_wp2_with fail
 go_loopw [8] (fun i wr => ∃ k : Nat, k ≤ n ∧ i = .int .i64 k ∧ Hid (Below w.heap.size w wr) ∧ Hid (idxF p (cs.drop k) k = R)) (fun i _ => n - (intOf i).toNat)
 case atStart => exact ⟨0, Nat.zero_le _, rfl, Lib.hid (Below.refl _ _), HR⟩
 case round =>
  obtain ⟨k, hk, rfl, hb, hinv⟩ := hrel
  clear HR
  by_cases hlt : k < n
  · obtain ⟨b, off, rfl⟩ := HB.out.sl.some2 (k := k) (by rw [HB.out.len]; exact hlt)
    obtain ⟨x, hx⟩ : ∃ x, cs[k]? = some x := ⟨_, List.getElem?_eq_getElem (by rw [HB.out.len]; exact hlt)⟩
    obtain ⟨hblt, c0, c1⟩ := HB.out.sl.cell2 hx
    have d0 := (hb.out.cell (p := ⟨b, off + k * 2, none⟩) hblt).trans c0
    have d1 := (hb.out.cell (p := ⟨b, off + k * 2 + 1, none⟩) hblt).trans c1
    have l0 : b < wr.heap.size := Nat.lt_of_lt_of_le hblt hb.out.size
    have Hst := Lib.hid ((idxF_drop p cs k x hx).symm.trans hinv.out)
    clear hinv c0 c1 hx
    obtain ⟨⟨xA, xn, xc, xs⟩, N⟩ := x
    simp only [] at d0 d1
    have hgo : (k : Int) < n := by omega
    have HC := Lib.hid (Hp.out xA xn xc N wr)
    cases hq : p N
    · have Hst2 : Hid (idxF p (cs.drop (k + 1)) (k + 1) = R) := by
       have := Hst.out
       simp only [hq] at this
       exact Lib.hid this
      clear Hst
      go_wp2_with fail
      refine HC.out.mono ?_
      rintro e w1 ⟨rfl, hg1⟩
      rw [hq]
      have Hb1 := Lib.hid (below_via hb.out hg1.below)
      clear hg1 hb d0 d1 HC
      go_wp2
      go_roundw
      case rel => exact ⟨k + 1, by omega, by go_num, Hb1, Hst2⟩
      case measure => simp [intOf]; omega
    · have Hst2 : Hid ((k : Int) = R) := by
       have := Hst.out
       simp only [hq] at this
       exact Lib.hid this
      clear Hst
      go_wp2_with fail
      refine HC.out.mono ?_
      rintro e w1 ⟨rfl, hg1⟩
      rw [hq]
      have Hb1 := Lib.hid (below_via hb.out hg1.below)
      clear hg1 hb d0 d1 HC
      go_wp2
      go_ret
      exact ⟨congrArg (fun z => Ending.returned (Value.int .i64 z)) Hst2.out, Hb1.out⟩
  · obtain rfl : k = n := by omega
    have Hst' : Hid (-1 = R) := by
     have := hinv.out
     rw [show cs.drop k = [] from List.drop_eq_nil_of_le (by rw [HB.out.len]; exact Nat.le_refl _)] at this
     exact Lib.hid this
    clear hinv
    go_wp2
    go_ret
    exact ⟨congrArg (fun z => Ending.returned (Value.int .i64 z)) Hst'.out, hb.out⟩
theorem idx_any (p : Int → Bool) (cs : List Ct) : decide (0 ≤ idxF p cs 0) = cs.any fun x => p x.N := by
 rcases idxF_spec p cs 0 with ⟨h1, h2⟩ | ⟨i, x, h1, h2, h3, _⟩
 · rw [h1]
   symm
   rw [show decide ((0 : Int) ≤ -1) = false from rfl, List.any_eq_false]
   intro x hx
   rw [h2 x hx]
   decide
 · rw [h1, decide_eq_true (by omega)]
   symm
   rw [List.any_eq_true]
   exact ⟨x, List.mem_of_getElem? h2, h3⟩
theorem contains_c (A : Option Addr) (n c : Nat) (cs : List Ct) (w : World) (hB : BgIn w A n cs) :
 Calls Tryz.prog 64 #[.slice A n c, .func (.func 60) #[] #[]] w fun e w' => e = .returned (.bool (cs.any fun x => beyB x.N)) ∧ Below w.heap.size w w' := by
 have HC := Lib.hid (idx_c 60 beyB asksBey (fun _ _ => by kernel_rfl) A n c cs w hB)
 rw [← idx_any]
 obtain ⟨R, hR⟩ : ∃ R, idxF beyB cs 0 = R := ⟨_, rfl⟩
 rw [hR] at HC ⊢
 clear hB hR
 go_enter Tryz.func64, Tryz.ntmps64
 go_wp2_with fail
 refine HC.out.mono ?_
 rintro e w1 ⟨rfl, hb1⟩
 go_wp2
 go_ret
 exact ⟨rfl, hb1⟩
def fl (l : List Ct) : List Ct := l.filter fun x => !(x.N == 0)
theorem fl_pl (l : List Ct) : pl (fl l) = (pl l).filter fun x => !(x.2 == 0) := by
 unfold fl pl
 rw [List.filter_map]
 rfl
theorem fl_take {l : List Ct} {j : Nat} {x : Ct} (h : l[j]? = some x) : fl (l.take (j + 1)) = fl (l.take j) ++ if x.N == 0 then [] else [x] := by
 unfold fl
 rw [List.take_add_one, h, List.filter_append]
 congr 1
 cases hz : x.N == 0 <;> simp [hz]
structure DelSt (w : World) (g n i j : Nat) (ol : List Ct) : Prop where
 lt : g < w.heap.size
 thaw : ∀ t, w.frozen? ⟨g, t, none⟩ = false
 all : ∀ t, t < n * 2 → ∃ u, w.cell? ⟨g, t, none⟩ = some u
 len : (fl (ol.take j)).length = i
 lo : ∀ t x, (fl (ol.take j))[t]? = some x → w.cell? ⟨g, t * 2, none⟩ = some (.slice x.h.A x.h.n x.h.c) ∧ w.cell? ⟨g, t * 2 + 1, none⟩ = some (.int .i64 x.N)
 hi : ∀ t x, j ≤ t → ol[t]? = some x → w.cell? ⟨g, t * 2, none⟩ = some (.slice x.h.A x.h.n x.h.c) ∧ w.cell? ⟨g, t * 2 + 1, none⟩ = some (.int .i64 x.N)
 out : ∀ c ∈ ol, OutC w g c
 ij : i < j
theorem DelSt.after {w w' : World} {g n i j : Nat} {ol : List Ct} (h : DelSt w g n i j ol) (hb : Below w.heap.size w w') : DelSt w' g n i j ol :=
 ⟨Nat.lt_of_lt_of_le h.lt hb.size, fun t => by rw [hb.frozen (p := ⟨g, t, none⟩) h.lt]; exact h.thaw t, fun t ht => by rw [hb.cell (p := ⟨g, t, none⟩) h.lt]; exact h.all t ht, h.len,
   fun t x hx => by rw [hb.cell (p := ⟨g, t * 2, none⟩) h.lt, hb.cell (p := ⟨g, t * 2 + 1, none⟩) h.lt]; exact h.lo t x hx,
   fun t x ht hx => by rw [hb.cell (p := ⟨g, t * 2, none⟩) h.lt, hb.cell (p := ⟨g, t * 2 + 1, none⟩) h.lt]; exact h.hi t x ht hx, fun c hc => (h.out c hc).after hb, h.ij⟩
theorem DelSt.skip {w : World} {g n i j : Nat} {ol : List Ct} {x : Ct} (h : DelSt w g n i j ol) (hx : ol[j]? = some x) (hz : (x.N == 0) = true) : DelSt w g n i (j + 1) ol := by
 have e : fl (ol.take (j + 1)) = fl (ol.take j) := by rw [fl_take hx, hz, if_pos rfl, List.append_nil]
 exact ⟨h.lt, h.thaw, h.all, by rw [e]; exact h.len, by rw [e]; exact h.lo, fun t y ht => h.hi t y (by omega), h.out, by have := h.ij; omega⟩
theorem DelSt.keep {w : World} {g n i j : Nat} {ol : List Ct} {x : Ct} (h : DelSt w g n i j ol) (hl : ol.length = n) (hx : ol[j]? = some x) (hz : (x.N == 0) = false) : DelSt ((w.setCell ⟨g, i * 2, none⟩ x.h.v).setCell ⟨g, i * 2 + 1, none⟩ (.int .i64 x.N)) g n (i + 1) (j + 1) ol := by
 have e : fl (ol.take (j + 1)) = fl (ol.take j) ++ [x] := by rw [fl_take hx, hz, if_neg (by decide)]
 have hij := h.ij
 have hjn : j < n := by rw [← hl]; exact (List.getElem?_eq_some_iff.1 hx).1
 obtain ⟨u0, h0⟩ := h.all (i * 2) (by omega)
 obtain ⟨u1, h1⟩ := h.all (i * 2 + 1) (by omega)
 have oth : ∀ (w : World) (p j : Nat) (v : Value), j ≠ p → (w.setCell ⟨g, p, none⟩ v).cell? ⟨g, j, none⟩ = w.cell? ⟨g, j, none⟩ := fun w p j v hj => World.cell?_setCell_other _ _ _ _ (by intro e; simp only [Addr.mk.injEq] at e; exact hj e.2.1.symm)
 have k1 : (w.setCell ⟨g, i * 2, none⟩ x.h.v).cell? ⟨g, i * 2 + 1, none⟩ = some u1 := (oth _ _ _ _ (by omega)).trans h1
 have c1 := World.cell?_setCell_same _ ⟨g, i * 2 + 1, none⟩ (.int .i64 x.N) k1
 have c0 := (oth (w.setCell ⟨g, i * 2, none⟩ x.h.v) (i * 2 + 1) (i * 2) (.int .i64 x.N) (by omega)).trans (World.cell?_setCell_same _ ⟨g, i * 2, none⟩ x.h.v h0)
 have other : ∀ j, j ≠ i * 2 → j ≠ i * 2 + 1 → ((w.setCell ⟨g, i * 2, none⟩ x.h.v).setCell ⟨g, i * 2 + 1, none⟩ (.int .i64 x.N)).cell? ⟨g, j, none⟩ = w.cell? ⟨g, j, none⟩ := fun j e0 e1 => (oth _ _ _ _ e1).trans (oth _ _ _ _ e0)
 refine ⟨by simpa using h.lt, fun t => by rw [World.frozen?_setCell, World.frozen?_setCell]; exact h.thaw t, fun t ht => ?_, by rw [e, List.length_append, h.len]; rfl, fun t y hy => ?_, fun t y ht hy => ?_, fun c hc => ((h.out c hc).set _ _).set _ _, by omega⟩
 · by_cases e0 : t = i * 2
   · subst e0; exact ⟨_, c0⟩
   by_cases e1 : t = i * 2 + 1
   · subst e1; exact ⟨_, c1⟩
   rw [other t e0 e1]
   exact h.all t ht
 · rw [e] at hy
   by_cases ht : t < i
   · rw [List.getElem?_append_left (by rw [h.len]; exact ht)] at hy
     rw [other _ (by omega) (by omega), other _ (by omega) (by omega)]
     exact h.lo t y hy
   · have ht' : t = i := by
      have := (List.getElem?_eq_some_iff.1 hy).1
      rw [List.length_append, h.len] at this
      simp at this
      omega
     subst ht'
     rw [List.getElem?_append_right (by rw [h.len]; exact Nat.le_refl _), h.len, Nat.sub_self] at hy
     simp at hy
     subst hy
     exact ⟨c0, c1⟩
 · rw [other _ (by omega) (by omega), other _ (by omega) (by omega)]
   exact h.hi t y (by omega) hy
theorem setCs_block (g : Nat) : ∀ (vs : List Value) (o : Nat) (w : World) (b : Nat), b ≠ g → (w.setCells g o vs).heap[b]? = w.heap[b]?
 | [], _, _, _, _ => rfl
 | v :: r, o, w, b, hb => by
   rw [World.setCells]
   exact (setCs_block g r _ _ b hb).trans (Below.heap_setCell _ _ _ _ hb)
theorem setCs_size (g : Nat) : ∀ (vs : List Value) (o : Nat) (w : World), (w.setCells g o vs).heap.size = w.heap.size
 | [], _, _ => rfl
 | v :: r, o, w => by
   rw [World.setCells, setCs_size g r]
   simp
theorem setCs_below {B g : Nat} (hg : B ≤ g) {w0 : World} : ∀ (vs : List Value) (o : Nat) (w : World), Below B w0 w → Below B w0 (w.setCells g o vs)
 | [], _, _, h => h
 | v :: r, o, w, h => by
   rw [World.setCells]
   exact setCs_below hg r _ _ (h.setCell hg v)
theorem clear2_run (w : World) (ty : TypeId) (b o n c : Nat) (hn : 0 < n) (hc : ∀ j, j < n * 2 → (w.cell? ⟨b, o + j, none⟩).isSome = true) (hf : ∀ j, w.frozen? ⟨b, j, none⟩ = false) :
 ∃ vs : List Value, vs.length = n * 2 ∧ (Builtin.clear_ #[30] ty #[.slice (some ⟨b, o, none⟩) n c]).run Tryz.prog w = .ok (.tuple #[]) (w.setCells b o vs) := by
 have hv : ∀ w, (zeroValue 49).run Tryz.prog w = .ok (.agg #[.slice none 0 0, .int .i64 0]) w := Tryz.zeroValue49
 have hlen : (Builtin.zeroCells (Value.agg #[.slice none 0 0, .int .i64 0]).cells n).toList.length = n * 2 := by
  rw [Array.length_toList, size_zeroCells]
  rfl
 have hone : ∀ v ∈ (Builtin.zeroCells (Value.agg #[.slice none 0 0, .int .i64 0]).cells n).toList, v.oneCell' = true := by
  intro v hv'
  rw [Array.mem_toList_iff] at hv'
  unfold Builtin.zeroCells at hv'
  rw [Array.mem_map] at hv'
  obtain ⟨i, _, rfl⟩ := hv'
  have hs : (Value.agg #[.slice none 0 0, .int .i64 0]).cells = #[.slice none 0 0, .int .i64 0] := by kernel_rfl
  rw [hs]
  have h2 : i % (#[Value.slice none 0 0, .int .i64 0] : Array Value).size = 0 ∨ i % (#[Value.slice none 0 0, .int .i64 0] : Array Value).size = 1 := by
   show i % 2 = 0 ∨ i % 2 = 1
   omega
  rcases h2 with e | e <;> rw [e] <;> rfl
 refine ⟨_, hlen, ?_⟩
 have hst := run_storeCells_cells (P := Tryz.prog) b o _ 0 w (fun j hj => by rw [hlen] at hj; simpa using hc j hj) (fun j _ => hf _) hone
 simp only [Nat.add_zero] at hst
 obtain ⟨m, rfl⟩ : ∃ m, n = m + 1 := ⟨n - 1, by omega⟩
 simp [Builtin.clear_, run_underlying Tryz.underlying30, hv, hst]
structure DelSaid (w : World) (B : Nat) (ol : List Ct) (A' : Option Addr) (m : Nat) (w' : World) : Prop where
 bg : ∃ ol', BgIn w' A' m ol' ∧ pl ol' = (pl ol).filter fun x => !(x.2 == 0)
 below : ∀ w0 B0, Below B0 w0 w → B0 ≤ B → B0 ≤ w0.heap.size → Below B0 w0 w'
set_option maxHeartbeats 4000000 in
theorem del_c (A : Option Addr) (n c B : Nat) (ol : List Ct) (w : World) (ho : OwnG w B 49 2 rdC (.slice A n c) ol) (hl : ol.length = n) (hn : n ≤ 100000) (hap : ApartC w A ol) (hBw : B ≤ w.heap.size) :
 Calls Tryz.prog 65 #[.slice A n c, .func (.func 66) #[] #[]] w fun e w' => ∃ A' m c', e = .returned (.slice A' m c') ∧ DelSaid w B ol A' m w' := by
 have hBg : BgIn w A n ol := by
  obtain ⟨A2, c2, e2, _, _, hs⟩ := ho.sl cOk.len
  injection e2 with e2
  subst e2
  exact ⟨hl, by unfold maxLen; omega, hs, hap.each⟩
 have HI := Lib.hid (idx_c 66 (fun N => N == 0) asksZero (fun _ _ => by kernel_rfl) A n c ol w hBg)
 rcases idxF_spec (fun N => N == 0) ol 0 with ⟨h1, h2⟩ | ⟨i0, x0, h1, h2, h3, h4⟩
 · rw [h1] at HI
   have HF : Hid (∀ w', Below w.heap.size w w' → DelSaid w B ol A n w') := Lib.hid fun w' hb => ⟨⟨ol, hBg.after hb, by
    symm
    rw [List.filter_eq_self]
    intro y hy
    obtain ⟨z, hz, rfl⟩ := List.mem_map.1 hy
    have h5 : (z.N == 0) = false := h2 z hz
    simp only [h5]
    rfl⟩, fun w0 B0 hb0 hB0 _ => hb0.trans (hb.mono (Nat.le_trans hB0 hBw))⟩
   clear hBg h1 h2 ho hap
   go_enter Tryz.func65, Tryz.ntmps65
   go_wp2_with fail
   refine HI.out.mono ?_
   rintro e w1 ⟨rfl, hb1⟩
   have HF1 := Lib.hid (HF.out w1 hb1)
   clear hb1 HF HI
   go_wp2
   go_ret
   exact ⟨A, n, c, rfl, HF1.out⟩
 · rw [h1, Nat.zero_add] at HI
   have hi0 : i0 < n := by rw [← hl]; exact (List.getElem?_eq_some_iff.1 h2).1
   obtain ⟨g, rfl, cur, hcur, hnc, hcs⟩ : ∃ g, A = some ⟨g, 0, none⟩ ∧ ∃ cur, w.heap[g]? = some (.cells cur 49 (0, 0)) ∧ n ≤ c ∧ cur.size = c * 2 := by
    rcases ho.2 with ⟨hv, hz⟩ | ⟨g', cap, cur, hv, _, hh, hle, _, hsz, _⟩
    · rw [hl] at hz; omega
    · injection hv with e1 e2 e3
      subst e3
      exact ⟨g', e1, cur, hh, by rw [hl] at hle; exact hle, hsz⟩
   have hgB : B ≤ g := (ho.lt g rfl).1
   have hflt : fl (ol.take i0) = ol.take i0 := by
    unfold fl
    rw [List.filter_eq_self]
    intro y hy
    have h5 : (y.N == 0) = false := h4 y hy
    rw [h5]
    rfl
   have HS : Hid (DelSt w g n i0 (i0 + 1) ol) := Lib.hid (by
    have e : fl (ol.take (i0 + 1)) = ol.take i0 := by
     rw [fl_take h2, show (x0.N == 0) = true from h3, if_pos rfl, List.append_nil, hflt]
    have hcell : ∀ t x, ol[t]? = some x → w.cell? ⟨g, t * 2, none⟩ = some (.slice x.h.A x.h.n x.h.c) ∧ w.cell? ⟨g, t * 2 + 1, none⟩ = some (.int .i64 x.N) := fun t x hx => by
     have := (hBg.sl.cell2 hx).2
     rwa [Nat.zero_add] at this
    refine ⟨(ho.lt g rfl).2, fun t => frozen_of_row _ _ _ _ _ hcur, fun t ht => ⟨cur[t]'(by rw [hcs]; omega), ?_⟩, by rw [e, List.length_take, hl]; omega, fun t x hx => ?_, fun t x _ hx => hcell t x hx, fun c hc => (hap c hc).2 g 0 rfl, by omega⟩
    · simp only [World.cell?, hcur, Option.isSome_none, Bool.false_eq_true, if_false]
      exact Array.getElem?_eq_getElem _
    · rw [e] at hx
      refine hcell t x ?_
      rw [List.getElem?_take] at hx
      split at hx
      · exact hx
      · cases hx)
   have Hl := Lib.hid hl
   clear hBg h1 h2 h3 h4 ho hap hflt hcur hcs hl
   have hne1 : ((i0 : Int) == -1) = false := beq_eq_false_iff_ne.2 (by omega)
   go_enter Tryz.func65, Tryz.ntmps65
   go_wp2_with fail
   refine HI.out.mono ?_
   rintro e w1 ⟨rfl, hb1⟩
   have HS1 := Lib.hid (HS.out.after hb1)
   have Hb1 : Hid (Below B w w1) := Lib.hid (hb1.mono hBw)
   clear hb1 HS HI
   go_wp2_with fail
   go_loopw [5, 6] (fun a d wr => ∃ i j : Nat, j ≤ n ∧ i < j ∧ a = .int .i64 i ∧ d = .int .i64 j ∧ Hid (Below B w wr) ∧ Hid (DelSt wr g n i j ol)) (fun _ d _ => n - (intOf d).toNat)
   case atStart => exact ⟨i0, i0 + 1, by omega, by omega, rfl, by go_num, Hb1, HS1⟩
   case round =>
    obtain ⟨i, j, hj, hij, rfl, rfl, hb, hS⟩ := hrel
    clear HS1 Hb1
    by_cases hlt : j < n
    · obtain ⟨x, hx⟩ : ∃ x, ol[j]? = some x := ⟨_, List.getElem?_eq_getElem (by rw [Hl.out]; exact hlt)⟩
      obtain ⟨d0, d1⟩ := hS.out.hi j x (Nat.le_refl _) hx
      have Hx := Lib.hid hx
      have l0 := hS.out.lt
      clear hx
      obtain ⟨⟨xA, xn, xc, xs⟩, N⟩ := x
      simp only [] at d0 d1
      have hgo : (j : Int) < n := by omega
      have hBr : B ≤ wr.heap.size := Nat.le_trans hBw hb.out.size
      cases hz : N == 0
      · go_wp2_with fail
        refine (zero_g xA xn xc N _).mono ?_
        rintro e w2 ⟨rfl, hg2⟩
        rw [hz]
        have Hb2 := Lib.hid (below_via (below_one wr (.cells #[.slice xA xn xc, .int .i64 N] 49)) hg2.below)
        have HS2 := Lib.hid (hS.out.after Hb2.out)
        have HK := Lib.hid (HS2.out.keep Hl.out Hx.out hz)
        obtain ⟨u0, f0⟩ := HS2.out.all (i * 2) (by omega)
        obtain ⟨u1, f1⟩ := HS2.out.all (i * 2 + 1) (by omega)
        have z0 := HS2.out.thaw (i * 2)
        have z1 := HS2.out.thaw (i * 2 + 1)
        have e0 : w2.cell? ⟨wr.heap.size, 0, none⟩ = some (.slice xA xn xc) := (hg2.below.cell (p := ⟨wr.heap.size, 0, none⟩) (by simp)).trans (by simp)
        have e1 : w2.cell? ⟨wr.heap.size, 1, none⟩ = some (.int .i64 N) := (hg2.below.cell (p := ⟨wr.heap.size, 1, none⟩) (by simp)).trans (by simp)
        have HF : Hid (Below B w ((w2.setCell ⟨g, i * 2, none⟩ (.slice xA xn xc)).setCell ⟨g, i * 2 + 1, none⟩ (.int .i64 N))) := Lib.hid (((hb.out.trans (Hb2.out.mono hBr)).setCell hgB _).setCell hgB _)
        clear hg2 Hb2 HS2 hb hS d0 d1 Hx hBr
        have hii : (i : Int) < n := by omega
        have hi0' : (0 : Int) ≤ i := by omega
        go_wp2_with fail
        go_roundw
        case rel => exact ⟨i + 1, j + 1, by omega, by omega, by go_num, by go_num, HF, HK⟩
        case measure => simp [intOf]; omega
      · go_wp2_with fail
        refine (zero_g xA xn xc N _).mono ?_
        rintro e w2 ⟨rfl, hg2⟩
        rw [hz]
        have Hb2 := Lib.hid (below_via (below_one wr (.cells #[.slice xA xn xc, .int .i64 N] 49)) hg2.below)
        have HK := Lib.hid ((hS.out.after Hb2.out).skip Hx.out hz)
        have HF : Hid (Below B w w2) := Lib.hid (hb.out.trans (Hb2.out.mono hBr))
        clear hg2 Hb2 hb hS d0 d1 Hx hBr
        go_wp2_with fail
        go_roundw
        case rel => exact ⟨i, j + 1, by omega, by omega, rfl, by go_num, HF, HK⟩
        case measure => simp [intOf]; omega
    · obtain rfl : j = n := by omega
      have hcl : ∃ vs : List Value, vs.length = (j - i) * 2 ∧ ∀ ty, (Builtin.clear_ #[30] ty #[.slice (some ⟨g, i * 2, none⟩) (j - i) (c - i)]).run Tryz.prog wr = .ok (.tuple #[]) (wr.setCells g (i * 2) vs) := by
       obtain ⟨vs, hv1, hv2⟩ := clear2_run wr 0 g (i * 2) (j - i) (c - i) (by omega) (fun t ht => by obtain ⟨u, hu⟩ := hS.out.all (i * 2 + t) (by omega); rw [hu]; rfl) hS.out.thaw
       exact ⟨vs, hv1, fun _ => hv2⟩
      obtain ⟨vs, hvs, hcl⟩ := hcl
      have ht : ol.take j = ol := List.take_of_length_le (by rw [Hl.out]; exact Nat.le_refl _)
      have HF : Hid (DelSaid w B ol (some ⟨g, 0, none⟩) i (wr.setCells g (i * 2) vs)) := Lib.hid (by
       have hS' := hS.out
       have hlen := hS'.len
       have hlo := hS'.lo
       rw [ht] at hlen hlo
       have hblk : ∀ b, b ≠ g → b < wr.heap.size → (wr.setCells g (i * 2) vs).heap[b]? = wr.heap[b]? := fun b hb _ => setCs_block g vs _ _ b hb
       have hsz : (wr.setCells g (i * 2) vs).heap.size = wr.heap.size := setCs_size g vs _ _
       refine ⟨⟨fl ol, ⟨hlen, by unfold maxLen; omega, .inr ⟨g, 0, rfl, by rw [hsz]; exact hS'.lt, fun t x hx q u hu => ?_⟩, fun c hc => ((hS'.out c (List.mem_filter.1 hc).1).same (by rw [hsz]; exact Nat.le_refl _) hblk).1⟩, fl_pl ol⟩, fun w0 B0 h0 h1 _ => ?_⟩
       · have hti : t < i := by rw [← hlen]; exact (List.getElem?_eq_some_iff.1 hx).1
         have hq : q < 2 := (List.getElem?_eq_some_iff.1 hu).1
         rw [World.cell?_setCells_out g vs (i * 2) wr _ (fun _ _ => .inl (by simp only; omega))]
         have h3 := hlo t x hx
         match q, hu with
         | 0, hu => simp [rdC] at hu; subst hu; rw [Nat.zero_add]; exact h3.1
         | 1, hu => simp [rdC] at hu; subst hu; rw [Nat.zero_add]; exact h3.2
       · exact setCs_below (Nat.le_trans h1 hgB) vs _ _ (h0.trans (hb.out.mono h1)))
      clear hS hb hvs ht
      have hci : ¬ c = i := by omega
      have hii : (i : Int) ≤ j := by omega
      have hic : (i : Int) ≤ c := by omega
      have hi0' : (0 : Int) ≤ i := by omega
      have hjc : (j : Int) ≤ c := by omega
      go_wp2
      go_ret
      exact ⟨_, _, _, rfl, HF.out⟩
theorem append_types (w : World) (ty : TypeId) (b : Option Addr) (n1 c1 : Nat) (A : Option Addr) (n c : Nat) : (Builtin.append_ #[29, 30] ty #[.slice b n1 c1, .slice A n c]).run Tryz.prog w = (Builtin.append_ #[29, 29] ty #[.slice b n1 c1, .slice A n c]).run Tryz.prog w := by
 simp [Builtin.append_, run_underlying Tryz.underlying29, run_underlying Tryz.underlying30]
theorem wpList_appU {ops : Array Oper} {rest : List Oper} {o : Oper} {a : Act} {Q : Exit → Act → World → Prop} {w : World} (hgd : o.guard = none) (s x : Operand) (ho : o.op = .call { callee := .builtin .append, args := #[s, x], argTypes := #[29, 30] })
 (B : Nat) (v : Value) (xs ys : List Ct) (A : Option Addr) (n c : Nat) (hs : a.eval s = v) (hb : OwnG w B 49 2 rdC v xs) (hx : a.eval x = .slice A n c) (hn : ys.length = n) (hsl : SlG w A 2 rdC ys)
 (hmax : xs.length + ys.length ≤ maxLen) (hbytes : (xs.length + ys.length) * 32 ≤ 140737488355328) (hB : B ≤ w.heap.size)
 (h : ∀ v' w', OwnG w' B 49 2 rdC v' (xs ++ ys) → w.grownBy w' v.ownBlock → wpList Tryz.prog ops Q rest (a.put o.dst v') w') : wpList Tryz.prog ops Q (o :: rest) a w := by
 obtain ⟨i0, hi, hz0, hz1, hz2⟩ := kOk.parts
 subst hn
 obtain ⟨b1, c1, hv1⟩ := hb.isSlice
 have some_case : ∀ (ad : Addr), A = some ad → (∀ j u, (ys.flatMap rdC)[j]? = some u → w.cell? (ad.add j) = some u) → wpList Tryz.prog ops Q (o :: rest) a w := by
  intro ad hA hcells
  subst hA
  refine wpList_plain hgd fun K hK => ?_
  obtain ⟨v', w', hr, h2, h3, h4, h5⟩ := run_append_own_at (P := Tryz.prog) w B 29 o.type 49 i0 _ 2 32 kOk.under hi hz0 hz1 hz2 kOk.zs kOk.pos v xs.length (xs.flatMap rdC) hb ad ys.length c (ys.flatMap rdC) (flat_len kOk.len ys) hcells (fun u hu => by obtain ⟨q, _, hq⟩ := List.mem_flatMap.1 hu; exact kOk.one q u hq) hmax hbytes hB
  rw [hv1, ← append_types, ← hv1] at hr
  unfold Oper.wp execOp
  simp only [ho, resolve, invoke, builtin, Sem.run_bind, Sem.run_pure, Result.andThen_ok, List.map_toArray, List.map_cons, List.map_nil, hs, hx, hr]
  refine hK _ _ (h v' w' ?_ h3)
  unfold OwnG
  rw [List.flatMap_append, List.length_append]
  exact h2
 rcases hsl with rfl | ⟨b, off, hA, hlt, hc⟩
 · cases A with
   | some ad => exact some_case ad rfl (fun j u hj => by simp at hj)
   | none =>
     refine wpList_plain hgd fun K hK => ?_
     have hr := app_none kOk w v B c o.type xs hb
     rw [hv1, ← append_types, ← hv1] at hr
     unfold Oper.wp execOp
     have hx' : a.eval x = .slice none 0 c := hx
     simp only [ho, resolve, invoke, builtin, Sem.run_bind, Sem.run_pure, Result.andThen_ok, List.map_toArray, List.map_cons, List.map_nil, hs, hx', hr]
     exact hK _ _ (h v w (by rw [List.append_nil]; exact hb) (World.grownBy.refl w _))
 · refine some_case ⟨b, off, none⟩ hA fun j u hj => ?_
   rw [Go.WideShapes.add_plain]
   exact SlG.flat kOk.len kOk.pos hc j u hj
def allC (bs : List Bh) : List Ct := bs.flatMap (·.cs)
theorem allC_take {bs : List Bh} {k : Nat} {b : Bh} (h : bs[k]? = some b) : allC (bs.take (k + 1)) = allC (bs.take k) ++ b.cs := by
 unfold allC
 rw [List.take_add_one, h, List.flatMap_append]
 simp
theorem allC_len {bs : List Bh} (h : ∀ b ∈ bs, b.cs.length = b.n) : (allC bs).length = totB bs := by
 induction bs with
 | nil => rfl
 | cons b bs ih =>
   have h1 := ih fun c hc => h c (List.mem_cons_of_mem _ hc)
   unfold allC at h1 ⊢
   rw [List.flatMap_cons, List.length_append, h1, h b (by simp)]
   rfl
theorem allC_pl (bs : List Bh) : pl (allC bs) = (bs.map fun b => pl b.cs).flatten := by
 unfold allC pl
 induction bs with
 | nil => rfl
 | cons b bs ih => rw [List.flatMap_cons, List.map_append, ih, List.map_cons, List.flatten_cons]
theorem OwnG.wrC {w : World} {B n c : Nat} {A : Option Addr} {ol : List Ct} (h : OwnG w B 49 2 rdC (.slice A n c) ol) (hl : ol.length = n) : n = 0 ∨ ∃ g off, A = some ⟨g, off, none⟩ ∧ Wr w g off ol ∧ B ≤ g := by
 rcases h.2 with ⟨hv, hz⟩ | ⟨g, cap, cur, hv, hB, hh, _⟩
 · exact .inl (by rw [← hl, hz])
 · injection hv with e1
   subst e1
   refine .inr ⟨g, 0, rfl, ⟨(h.lt g rfl).2, fun i x hx j u hu => ?_⟩, hB⟩
   obtain ⟨A2, c2, e2, _, _, hs⟩ := h.sl cOk.len
   injection e2 with e2
   subst e2
   have hc2 := hs.cell2 hx
   refine ⟨?_, frozen_of_row _ _ _ _ _ hh⟩
   match j, hu with
   | 0, hu => simp [rdC] at hu; subst hu; exact hc2.2.1
   | 1, hu => simp [rdC] at hu; subst hu; exact hc2.2.2
theorem mayBag_rows {b : Bg} (h : mayBag b = true) : ∀ x ∈ b, x.1.length ≤ 100000 := fun x hx => by
 have := mayR_len (okC_parts (may_okC h x hx)).2.2.2
 omega
theorem bey_may {l : List Bg} {p M : Bg} (hl : ∀ b ∈ l, mayBag b = true) (h : MI p M) (hp : p.Perm l.flatten) : mayBag (plusL l) = !(M.any fun x => beyB x.2) := by
 have hf := h.plus hp
 cases hb : M.any fun x => beyB x.2
 · rw [Bool.not_false, ← hf]
   rw [List.any_eq_false] at hb
   refine may_of (by rw [hf]; exact asc_plus l) fun x hx => ?_
   obtain ⟨h1, h2⟩ := List.mem_filter.1 hx
   have h3 : x ∈ plusL l := by rw [← hf]; exact hx
   have h4 := hb x h1
   rw [bey_fits] at h4
   have h5 : (decide (-1000000000 ≤ x.2) && decide (x.2 ≤ 1000000000)) = true := by
    cases hq : (decide (-1000000000 ≤ x.2) && decide (x.2 ≤ 1000000000))
    · rw [hq] at h4; simp at h4
    · rfl
   rw [Bool.and_eq_true, decide_eq_true_eq, decide_eq_true_eq] at h5
   exact okC_of (nz_plus l x h3) h5.1 h5.2 (key_plus (fun r => mayR r = true) l (fun b hb y hy => (okC_parts (may_okC (hl b hb) y hy)).2.2.2) x h3)
 · rw [Bool.not_true]
   rw [List.any_eq_true] at hb
   obtain ⟨x, hx, hbx⟩ := hb
   cases hm : mayBag (plusL l)
   · rfl
   · exfalso
     rw [bey_fits] at hbx
     have hz : (x.2 == 0) = false := by
      cases hq : x.2 == 0
      · rfl
      · rw [eq_of_beq hq] at hbx
        exact absurd hbx (by decide)
     have hin : x ∈ plusL l := by
      rw [← hf]
      exact List.mem_filter.2 ⟨hx, by rw [hz]; rfl⟩
     have h5 := okC_parts (may_okC hm x hin)
     rw [decide_eq_true h5.2.1, decide_eq_true h5.2.2.1] at hbx
     exact absurd hbx (by decide)
set_option maxHeartbeats 4000000 in
theorem plus_c (A : Option Addr) (n c : Nat) (bs : List Bh) (w : World) (hl : bs.length = n) (hn : n ≤ 10000) (hsl : SlG w A 1 rdBh bs) (hin : ∀ b ∈ bs, Bh.In w b) (ht : totB bs ≤ 100000) :
 Calls Tryz.prog 50 #[.slice A n c] w fun e w' => ∃ A' n' c' cs', e = .returned (.slice A' n' c') ∧ Below w.heap.size w w' ∧ BgIn w' A' n' cs' ∧ pl cs' = plusR (bs.map fun b => pl b.cs) := by
 have Hl := Lib.hid hl
 have Hs := Lib.hid hsl
 have Hi := Lib.hid hin
 have Ht := Lib.hid ht
 clear hl hsl hin ht
 go_enter Tryz.func50, Tryz.ntmps50
 go_wp2_with fail
 go_loopw [3, 9] (fun v i wr => ∃ k : Nat, k ≤ n ∧ i = .int .i64 k ∧ Hid (Below w.heap.size w wr) ∧ Hid (OwnG wr w.heap.size 49 2 rdC v (allC (bs.take k))) ∧ Hid (∀ b ∈ bs.take k, mayBag (pl b.cs) = true)) (fun _ i _ => n - (intOf i).toNat)
 case atStart => exact ⟨0, Nat.zero_le _, rfl, Lib.hid (Below.refl _ _), Lib.hid (OwnG.nil _ _ _), Lib.hid nofun⟩
 case round =>
  obtain ⟨k, hk, rfl, hb, ho, hall⟩ := hrel
  by_cases hlt : k < n
  · obtain ⟨b, off, x, rfl, hblt, hx, c0⟩ := Hs.out.at1 (by rw [Hl.out]; exact hlt)
    have d0 := (hb.out.cell (p := ⟨b, off + k, none⟩) hblt).trans (c0 _ rfl)
    have l0 : b < wr.heap.size := Nat.lt_of_lt_of_le hblt hb.out.size
    have hxi : BgIn wr x.A x.n x.cs := (Hi.out x (List.mem_of_getElem? hx)).after hb.out
    have Hx := Lib.hid hxi
    have Htk := Lib.hid (allC_take hx)
    have Htt : Hid (∀ y ∈ bs.take (k + 1), y ∈ bs.take k ∨ y = x) := Lib.hid fun y hy => by
     rw [List.take_add_one, hx] at hy
     rcases List.mem_append.1 hy with hy | hy
     · exact .inl hy
     · simp at hy; exact .inr hy
    have Hno : Hid (mayBag (pl x.cs) = false → plusR (bs.map fun b => pl b.cs) = []) := Lib.hid fun hf => by
     unfold plusR
     rw [if_neg]
     intro ha
     rw [Bool.and_eq_true] at ha
     rw [List.all_eq_true.1 ha.1 (pl x.cs) (List.mem_map.2 ⟨x, List.mem_of_getElem? hx, rfl⟩)] at hf
     cases hf
    have Hlen : Hid ((allC (bs.take k)).length + x.cs.length ≤ 100000) := Lib.hid (by
     have h1 := totB_take bs k x hx
     have h2 := totB_le bs (k + 1)
     have h3 := allC_len (bs := bs.take k) fun b hb => (Hi.out b (List.mem_of_mem_take hb)).len
     have h4 := hxi.len
     have := Ht.out
     omega)
    clear c0 hblt hx hxi
    obtain ⟨xA, xn, xc, cs⟩ := x
    simp only [] at d0
    have HM := Lib.hid (mayBag_c xA xn xc cs wr Hx.out)
    go_wp2_with fail
    refine HM.out.mono ?_
    rintro e w1 ⟨rfl, hb1⟩
    have Hb2 := Lib.hid (below_via hb.out hb1)
    have HO1 := Lib.hid (ho.out.after hb1)
    have Hx1 := Lib.hid (Hx.out.after hb1)
    clear hb1 hb d0 HM ho Hx
    cases hM : mayBag (pl cs)
    · have Hno2 := Lib.hid (Hno.out hM)
      clear Hno
      go_wp2
      go_ret
      exact ⟨none, 0, 0, [], rfl, Hb2.out, BgIn.none _, Hno2.out.symm⟩
    · have Hall2 : Hid (∀ b ∈ bs.take (k + 1), mayBag (pl b.cs) = true) := Lib.hid fun b hb => by
       rcases Htt.out b hb with h | h
       · exact hall.out b h
       · subst h; exact hM
      clear Hno hall Htt hM
      go_wp2_with (at_builtin; go_must (refine wpList_appU rfl (.tmp 16) (.tmp 17) rfl w.heap.size _ (allC (bs.take k)) cs xA xn xc rfl HO1.out rfl Hx1.out.len Hx1.out.sl (by have := Hlen.out; unfold maxLen; omega) (by have := Hlen.out; omega) Hb2.out.size ?_; intro v1 w2 hv1 hg1; rw [← Htk.out] at hv1; have Hb3 := Lib.hid (Hb2.out.grown hg1 Hb2.out.size (fun k hk => (HO1.out.lt k hk).1)); have Hv1 := Lib.hid hv1; clear hv1 hg1))
      go_roundw
      case rel => exact ⟨k + 1, by omega, by go_num, Hb3, Hv1, Hall2⟩
      case measure => simp [intOf]; omega
  · obtain rfl : k = n := by omega
    have ht : bs.take k = bs := List.take_of_length_le (by rw [Hl.out]; omega)
    rw [ht] at ho hall
    obtain ⟨A1, c1, rfl⟩ := ho.out.isSlice
    have hlen : (allC bs).length ≤ 100000 := by
     rw [allC_len fun b hb => (Hi.out b hb).len]
     exact Ht.out
    have hct : ∀ c ∈ allC bs, Ct.In w c := fun c hc => by
     obtain ⟨b, hb, hc⟩ := List.mem_flatMap.1 hc
     exact (Hi.out b hb).each c hc
    have hmay : ∀ x ∈ pl (allC bs), ∃ b ∈ bs.map (fun b => pl b.cs), mayBag b = true ∧ x ∈ b := fun x hx => by
     rw [allC_pl] at hx
     obtain ⟨b, hb, hx⟩ := List.mem_flatten.1 hx
     obtain ⟨q, hq, rfl⟩ := List.mem_map.1 hb
     exact ⟨_, hb, hall.out q hq, hx⟩
    have HM := Lib.hid (merged_c A1 (allC bs).length c1 (allC bs) wr rfl hlen (by
     rcases ho.out.wrC rfl with h | ⟨g, off, h1, h2, h3⟩
     · exact .inl h
     · exact .inr ⟨g, off, h1, h2, fun c hc => OutC.old (hct c hc) hb.out h3⟩) (fun c hc => by
     obtain ⟨b, _, h1, h2⟩ := hmay _ (pl_mem hc)
     exact mayBag_rows h1 _ h2) (fun x hx => by
     obtain ⟨b, _, h1, h2⟩ := hmay _ hx
     exact bd_may h1 x h2))
    have Hg : Hid (∀ g off, A1 = some ⟨g, off, none⟩ → w.heap.size ≤ g) := Lib.hid fun g off e => (ho.out.lt g (by rw [e]; rfl)).1
    have Hlen := Lib.hid hlen
    have Hall : Hid (∀ b ∈ bs.map (fun b => pl b.cs), mayBag b = true) := Lib.hid fun b hb => by
     obtain ⟨q, hq, rfl⟩ := List.mem_map.1 hb
     exact hall.out q hq
    clear hlen hct hmay ht hall ho
    go_wp2_with fail
    refine HM.out.mono ?_
    rintro e w2 ⟨A', m, c', ol, rfl, hS⟩
    have HS := Lib.hid hS
    have Hb2 := Lib.hid (hS.below w w.heap.size hb.out Hg.out (Nat.le_refl _))
    have hm5 : m ≤ 100000 := Nat.le_trans hS.le Hlen.out
    have Hc := Lib.hid (contains_c A' m c' ol w2 (hS.bg (by have := Hlen.out; unfold maxLen; omega)))
    have Hr : Hid (plusR (bs.map fun b => pl b.cs) = if (ol.any fun x => beyB x.N) then [] else (pl ol).filter fun x => !(x.2 == 0)) := Lib.hid (by
     obtain ⟨p, hp, hmi⟩ := hS.mi
     rw [allC_pl] at hp
     have h1 := bey_may Hall.out hmi hp
     have h2 : (pl ol).any (fun x => beyB x.2) = ol.any fun x => beyB x.N := by unfold pl; rw [List.any_map]; rfl
     rw [h2] at h1
     unfold plusR
     rw [List.all_eq_true.2 Hall.out, Bool.true_and, h1, hmi.plus hp]
     cases ol.any fun x => beyB x.N <;> rfl)
    have Hsz := Lib.hid hb.out.size
    clear hS HM hb
    go_wp2_with fail
    refine Hc.out.mono ?_
    rintro e w3 ⟨rfl, hb3⟩
    cases hany : ol.any fun x => beyB x.N
    · have Hr2 : Hid (plusR (bs.map fun b => pl b.cs) = (pl ol).filter fun x => !(x.2 == 0)) := Lib.hid (by rw [Hr.out, hany]; rfl)
      have Hb3 := Lib.hid (below_via Hb2.out hb3)
      have HD := Lib.hid (del_c A' m c' w.heap.size ol w3 ((HS.out.own.after hb3).mono Hsz.out) HS.out.len hm5 (HS.out.apart.after hb3) Hb3.out.size)
      clear Hr hb3 Hc
      go_wp2_with fail
      refine HD.out.mono ?_
      rintro e w4 ⟨A4, m4, c4, rfl, hD⟩
      have HF : Hid (∃ cs', Below w.heap.size w w4 ∧ BgIn w4 A4 m4 cs' ∧ pl cs' = plusR (bs.map fun b => pl b.cs)) := Lib.hid (by
       obtain ⟨cs', h1, h2⟩ := hD.bg
       exact ⟨cs', hD.below w w.heap.size Hb3.out (Nat.le_refl _) (Nat.le_refl _), h1, by rw [h2, Hr2.out]⟩)
      clear hD HD
      go_wp2
      go_ret
      obtain ⟨cs', h1, h2, h3⟩ := HF.out
      exact ⟨A4, m4, c4, cs', rfl, h1, h2, h3⟩
    · have Hr2 : Hid (plusR (bs.map fun b => pl b.cs) = []) := Lib.hid (by rw [Hr.out, hany]; rfl)
      have Hb3 := Lib.hid (below_via Hb2.out hb3)
      clear Hr hb3 Hc
      go_wp2
      go_ret
      exact ⟨none, 0, 0, [], rfl, Hb3.out, BgIn.none _, Hr2.out.symm⟩
attribute [local go_sem ↓] Go.wp_at_zero Go.wp_at_succ
structure Vq where
 name : ByteArray
 frm : ByteArray
 wth : ByteArray
 on0 : Int
 on1 : Int
 eA : Option Addr
 en : Nat
 ec : Nat
 e : List Nd
 pA : Option Addr
 pn : Nat
 pc : Nat
 ps : List Int
 grp : Bool
 aA : Option Addr
 an : Nat
 ac : Nat
abbrev Vq.w (x : Vq) : Value := .agg #[.string x.name, .string x.frm, .string x.wth, .int .i64 x.on0, .int .i64 x.on1, .slice x.eA x.en x.ec, .slice x.pA x.pn x.pc, .bool x.grp, .slice x.aA x.an x.ac]
def Vq.cells (x : Vq) : Array Value := #[.string x.name, .string x.frm, .string x.wth, .int .i64 x.on0, .int .i64 x.on1, .slice x.eA x.en x.ec, .slice x.pA x.pn x.pc, .bool x.grp, .slice x.aA x.an x.ac]
structure Vq.In (w : World) (x : Vq) : Prop where
 elen : x.e.length = x.en
 emax : x.en ≤ maxLen
 esl : SlN w x.eA x.e
 ez : ∀ n ∈ x.e, n.v.s.size ≤ maxLen
 plen : x.ps.length = x.pn
 pmax : x.pn ≤ maxLen
 psl : SlG w x.pA 1 rdI x.ps
theorem Vq.In.after {w w' : World} {x : Vq} (h : Vq.In w x) (hb : Below w.heap.size w w') : Vq.In w' x := ⟨h.elen, h.emax, h.esl.after hb, h.ez, h.plen, h.pmax, h.psl.after hb⟩
def Bq (w : World) (b : Nat) (x : Vq) : Prop := w.heap[b]? = some (.cells x.cells 28 (0, 0))
theorem Bq.new (w : World) (x : Vq) : Bq (w.alloc (.cells x.cells 28)) w.heap.size x := by
 show (w.heap.push _)[w.heap.size]? = _
 simp
theorem Bq.below {w w' : World} {b B : Nat} {x : Vq} (h : Bq w b x) (hb : Below B w w') (hlt : b < B) : Bq w' b x := (hb.block b hlt).trans h
theorem Bq.pick {w : World} {b : Nat} {x : Vq} (h : Bq w b x) : w.cell? ⟨b, 6, none⟩ = some (.slice x.pA x.pn x.pc) := by
 unfold Bq at h
 simp [World.cell?, h, Vq.cells]
theorem bgIn_nil (w : World) : BgIn w none 0 [] := ⟨rfl, Nat.zero_le _, .inl rfl, nofun⟩
end Go.Proofs.YtldaoepemofhlaaGreatDoor
namespace Go.Proofs.YtldaoepemofhlaaGreatDoor
open Go Go.RowKit
set_option maxRecDepth 100000
set_option maxHeartbeats 1000000 in
theorem pickL_c (A B : Option Addr) (n c m d : Nat) (xs : List Val) (cs : List Int) (w : World) (hn : xs.length = n) (_hn1 : n ≤ maxLen) (hs : Sl w A xs) (hm : cs.length = m) (hm1 : m ≤ 1000) (hk : SlG w B 1 rdI cs) :
 Calls Tryz.prog 48 #[.slice A n c, .slice B m d] w fun en w' => ∃ (h : Hd) (ok : Bool), en = .returned (.tuple #[h.v, .bool ok]) ∧ Below w.heap.size w w' ∧ Hd.In w' h ∧ pickOk xs cs h ok ∧ (∀ b off, h.A = some ⟨b, off, none⟩ → w.heap.size ≤ b ∧ b < w'.heap.size) ∧ h.n ≤ h.c := by
 unfold maxLen at _hn1
 obtain ⟨cells, hcs, hmk⟩ := make_run vOk m (by omega) (by unfold maxLen; omega)
 have Hs := Lib.hid hs
 have Hn := Lib.hid hn
 have Hm := Lib.hid hm
 have Hk := Lib.hid hk
 have Hcs := Lib.hid hcs
 clear hs hn hm hk hcs
 go_enter Tryz.func48, Tryz.ntmps48
 go_wp2_with fail
 have Hmk : Hid (Mk (w.alloc (.cells cells 39)) w.heap.size 3 m rdV []) := Mk.new w cells _ Hcs.out
 have Hb1 : Hid (Below w.heap.size w (w.alloc (.cells cells 39))) := below_one _ _
 clear hmk Hcs
 go_loopw [14] (fun i wr => ∃ k : Nat, k ≤ m ∧ i = .int .i64 k ∧ Hid (Below w.heap.size w wr) ∧ ∃ l : List Val, Hid (l.length = k ∧ Mk wr w.heap.size 3 m rdV l ∧ pickR xs cs = (pickR xs (cs.drop k)).map (l ++ ·))) (fun i _ => m - (intOf i).toNat)
 case atStart => exact ⟨0, Nat.zero_le _, rfl, Hb1, [], ⟨rfl, Hmk.out, by simp⟩⟩
 case round =>
  obtain ⟨k, hk, rfl, hb, l, hl⟩ := hrel
  clear Hmk Hb1
  by_cases hlt : k < m
  · obtain ⟨b, off, y, rfl, hblt, hy, c0⟩ := Hk.out.at1 (by rw [Hm.out]; exact hlt)
    have d0 := (hb.out.cell (p := ⟨b, off + k, none⟩) hblt).trans (c0 _ rfl)
    have l0 : b < wr.heap.size := Nat.lt_of_lt_of_le hblt hb.out.size
    have hst := pickR_drop xs cs k y hy
    rw [Hn.out] at hst
    have Hst := Lib.hid hst
    clear hst hy c0 hblt
    by_cases hin : 0 ≤ y ∧ y < n
    · obtain ⟨j, rfl⟩ : ∃ j : Nat, y = j := ⟨y.toNat, by omega⟩
      have hj : j < n := by omega
      obtain ⟨b2, off2, x, rfl, hblt2, hx, e0, e1, e2⟩ := Hs.out.at3 (by rw [Hn.out]; exact hj)
      have d1 := (hb.out.cell (p := ⟨b2, off2 + j * 3, none⟩) hblt2).trans e0
      have d2 := (hb.out.cell (p := ⟨b2, off2 + j * 3 + 1, none⟩) hblt2).trans e1
      have d3 := (hb.out.cell (p := ⟨b2, off2 + j * 3 + 2, none⟩) hblt2).trans e2
      obtain ⟨u0, f0⟩ := hl.out.2.1.all (k * 3) (by omega)
      obtain ⟨u1, f1⟩ := hl.out.2.1.all (k * 3 + 1) (by omega)
      obtain ⟨u2, f2⟩ := hl.out.2.1.all (k * 3 + 2) (by omega)
      have z0 := hl.out.2.1.thaw (k * 3)
      have z1 := hl.out.2.1.thaw (k * 3 + 1)
      have z2 := hl.out.2.1.thaw (k * 3 + 2)
      have hne : w.heap.size ≠ b2 := by omega
      have Hx := Lib.hid hx
      clear e0 e1 e2 hx hin
      go_wp2_with fail
      go_roundw
      case rel =>
       refine ⟨k + 1, by omega, by go_num, ?_, l ++ [x], ?_⟩
       · exact Lib.hid (((hb.out.setCell (Nat.le_refl _) _).setCell (Nat.le_refl _) _).setCell (Nat.le_refl _) _)
       · have := hl.out.2.1.set3 x (by rw [hl.out.1]; exact hlt)
         rw [hl.out.1] at this
         refine Lib.hid ⟨by rw [List.length_append, hl.out.1]; rfl, this, ?_⟩
         rw [hl.out.2.2, Hst.out, if_pos ⟨by omega, by omega⟩, Int.toNat_natCast, Hx.out]
         simp [Function.comp_def]
      case measure => simp [intOf]; omega
    · have hnone : Hid (pickR xs cs = none) := by
       have h2 := Hst.out
       rw [if_neg hin] at h2
       have h3 := hl.out.2.2
       rw [h2] at h3
       exact h3
      clear Hst
      rcases Int.lt_or_le y 0 with hy0 | hy0
      · go_wp2_with fail
        go_ret2
        refine ⟨⟨none, 0, 0, []⟩, false, rfl, hb.out, ⟨rfl, Nat.zero_le _, .inl rfl⟩, ?_, fun b off e => (by cases e), Nat.le_refl _⟩
        unfold pickOk
        rw [hnone.out]
        exact ⟨rfl, rfl⟩
      · have hy1 : (n : Int) ≤ y := by omega
        clear hin
        go_wp2_with fail
        go_ret2
        refine ⟨⟨none, 0, 0, []⟩, false, rfl, hb.out, ⟨rfl, Nat.zero_le _, .inl rfl⟩, ?_, fun b off e => (by cases e), Nat.le_refl _⟩
        unfold pickOk
        rw [hnone.out]
        exact ⟨rfl, rfl⟩
  · obtain rfl : k = m := by omega
    go_wp2_with fail
    go_ret2
    refine ⟨⟨some ⟨w.heap.size, 0, none⟩, k, k, l⟩, true, rfl, hb.out, ⟨hl.out.1, by unfold maxLen; show k ≤ _; omega, hl.out.2.1.slG.sl⟩, ?_, fun b off e => (by cases e; exact ⟨Nat.le_refl _, hl.out.2.1.lt⟩), Nat.le_refl _⟩
    unfold pickOk
    have h3 := hl.out.2.2
    rw [show cs.drop k = [] from List.drop_eq_nil_of_le (by rw [Hm.out]; omega), pickR] at h3
    rw [h3]
    simp
attribute [local go_sem ↓] Go.wp_at_zero Go.wp_at_succ
def pickL (ps : List Int) (b : Bg) : Bg := b.filterMap fun x => (pickR x.1 ps).map fun q => (q, x.2)
def pickP (ps : List Int) (b : Bg) : Bg := if mayBag b && decide (ps.length ≤ 40) then plusR (ones (pickL ps b)) else []
theorem pickL_take {ps : List Int} {b : Bg} {k : Nat} {x : List Val × Int} (h : b[k]? = some x) : pickL ps (b.take (k + 1)) = pickL ps (b.take k) ++ match pickR x.1 ps with | some q => [(q, x.2)] | none => [] := by
 unfold pickL
 rw [List.take_add_one, h, List.filterMap_append]
 congr 1
 show List.filterMap _ [x] = _
 cases hp : pickR x.1 ps with
 | none => simp [hp]
 | some q => simp [hp]
theorem pickL_len (ps : List Int) (b : Bg) : (pickL ps b).length ≤ b.length := List.length_filterMap_le _ _
theorem pick_mem : ∀ {ps : List Int} {xs q : List Val}, pickR xs ps = some q → ∀ v ∈ q, v ∈ xs
 | [], xs, q, h, v, hv => by
   rw [pickR] at h
   cases h
   cases hv
 | p :: ps, xs, q, h, v, hv => by
   rw [pickR] at h
   split at h
   · cases hx : xs[p.toNat]? with
     | none => rw [hx] at h; cases h
     | some y =>
       rw [hx] at h
       simp only at h
       cases hr : pickR xs ps with
       | none => rw [hr] at h; cases h
       | some r =>
         rw [hr] at h
         cases h
         rcases List.mem_cons.1 hv with rfl | hv
         · exact List.mem_of_getElem? hx
         · exact pick_mem hr v hv
   · cases h
set_option maxHeartbeats 4000000 in
theorem qpick_c (x : Vq) (A : Option Addr) (n c : Nat) (cs : List Ct) (w : World) (hx : Vq.In w x) (hA : BgIn w A n cs) (hn : n ≤ 10000) :
 Calls Tryz.prog 29 #[x.w, .slice A n c] w fun e w' => ∃ A' n' c' os, e = .returned (.slice A' n' c') ∧ Below w.heap.size w w' ∧ BgIn w' A' n' os ∧ pl os = pickP x.ps (pl cs) := by
 have HQ : Hid (Bq (w.alloc (.cells x.cells 28)) w.heap.size x) := Lib.hid (Bq.new w x)
 have HX := Lib.hid hx
 have HA := Lib.hid hA
 clear hA hx
 obtain ⟨nm, fr, wt, o0, o1, eA, en, ec, ee, pA, pn, pc, ps, gr, aA, an, ac⟩ := x
 have Hb0 : Hid (Below w.heap.size w (w.alloc (.cells #[.string nm, .string fr, .string wt, .int .i64 o0, .int .i64 o1, .slice eA en ec, .slice pA pn pc, .bool gr, .slice aA an ac] 28))) := Lib.hid (below_one _ _)
 have Hl0 : Hid (w.heap.size < (w.alloc (.cells #[.string nm, .string fr, .string wt, .int .i64 o0, .int .i64 o1, .slice eA en ec, .slice pA pn pc, .bool gr, .slice aA an ac] 28)).heap.size) := Lib.hid (by simp)
 have HQ1 : Hid (Bq (w.alloc (.cells #[.string nm, .string fr, .string wt, .int .i64 o0, .int .i64 o1, .slice eA en ec, .slice pA pn pc, .bool gr, .slice aA an ac] 28)) w.heap.size ⟨nm, fr, wt, o0, o1, eA, en, ec, ee, pA, pn, pc, ps, gr, aA, an, ac⟩) := HQ
 clear HQ
 dsimp only [Vq.w]
 have Hpl := Lib.hid HX.out.plen
 have hpm := HX.out.pmax
 try simp only at hpm
 unfold maxLen at hpm
 go_enter Tryz.func29, Tryz.ntmps29
 go_wp2_with fail
 refine (mayBag_c A n c cs _ (HA.out.after Hb0.out)).mono ?_
 rintro e W ⟨rfl, hb1⟩
 have HbW := Lib.hid (below_via Hb0.out hb1)
 have HQ2 := HQ1.out.below hb1 Hl0.out
 have hlW := Nat.lt_of_lt_of_le Hl0.out hb1.size
 have hq6 := HQ2.pick
 try simp only at hq6
 clear hb1 Hb0 HQ1 Hl0 HQ2
 cases hma : mayBag (pl cs)
 · have HF : Hid (Below w.heap.size w W ∧ BgIn W none 0 [] ∧ pl [] = pickP ps (pl cs)) := Lib.hid ⟨HbW.out, bgIn_nil _, by unfold pickP; rw [hma]; rfl⟩
   clear hma
   go_wp2
   go_ret
   exact ⟨_, _, _, _, rfl, HF.out⟩
 · have Hma := Lib.hid hma
   clear hma
   by_cases h40 : 40 < pn
   · have HF : Hid (Below w.heap.size w W ∧ BgIn W none 0 [] ∧ pl [] = pickP ps (pl cs)) := Lib.hid ⟨HbW.out, bgIn_nil _, by
      unfold pickP
      have h1 : ps.length = pn := Hpl.out
      rw [decide_eq_false (by omega), Bool.and_false]
      rfl⟩
     have h41 : (40 : Int) < pn := by omega
     go_wp2
     go_ret
     exact ⟨_, _, _, _, rfl, HF.out⟩
   · have h41 : ¬ (40 : Int) < pn := by omega
     have h42 : (pn : Int) ≤ 40 := by omega
     go_wp2_with fail
     have HlW := Lib.hid hlW
     have Hq6 := Lib.hid hq6
     clear hlW hq6
     go_loopw [5, 21] (fun v q wr => ∃ (k n' : Nat) (A' : Option Addr) (c' : Nat) (bs : List Bh), k ≤ n ∧ q = .int .i64 k ∧ v = .slice A' n' c' ∧ n' ≤ k ∧ Hid (Below W.heap.size W wr) ∧ Hid (PrsIn wr W.heap.size (.slice A' n' c') bs (pickL ps ((pl cs).take k))) ∧ Hid (bs.length = n')) (fun _ q _ => n - (intOf q).toNat)
     case atStart => exact ⟨0, 0, none, 0, [], Nat.zero_le _, rfl, rfl, Nat.zero_le _, Lib.hid (Below.refl _ _), Lib.hid (PrsIn.nil _ _), Lib.hid rfl⟩
     case round =>
      obtain ⟨k, n', A', c', bs, hk, rfl, rfl, hn', hb, hp, hpn⟩ := hrel
      by_cases hlt : k < n
      · obtain ⟨b, off, rfl⟩ := HA.out.sl.some2 (k := k) (by rw [HA.out.len]; exact hlt)
        obtain ⟨x, hx⟩ : ∃ x, cs[k]? = some x := ⟨_, List.getElem?_eq_getElem (by rw [HA.out.len]; exact hlt)⟩
        obtain ⟨hblt, c0, c1⟩ := (HA.out.after HbW.out).sl.cell2 hx
        have d0 := (hb.out.cell (p := ⟨b, off + k * 2, none⟩) hblt).trans c0
        have d1 := (hb.out.cell (p := ⟨b, off + k * 2 + 1, none⟩) hblt).trans c1
        have l0 : b < wr.heap.size := Nat.lt_of_lt_of_le hblt hb.out.size
        have d6 := (hb.out.cell (p := ⟨w.heap.size, 6, none⟩) HlW.out).trans Hq6.out
        have l6 : w.heap.size < wr.heap.size := Nat.lt_of_lt_of_le HlW.out hb.out.size
        have Hxr := Lib.hid (((HA.out.each x (List.mem_of_getElem? hx)).after HbW.out).after hb.out)
        have HVr := Lib.hid ((HX.out.after HbW.out).after hb.out)
        have Htk := Lib.hid (pickL_take (ps := ps) (pl_at hx))
        clear c0 c1 hx
        obtain ⟨⟨xA, xn, xc, xs⟩, N⟩ := x
        have hgo : (k : Int) < n := by omega
        have Hb1 : Hid (Below wr.heap.size wr (wr.alloc (.cells #[.slice xA xn xc, .int .i64 N] 49))) := Lib.hid (below_one _ _)
        have dg1 : Hid ((wr.alloc (.cells #[.slice xA xn xc, .int .i64 N] 49)).cell? ⟨wr.heap.size, 1, none⟩ = some (.int .i64 N)) := Lib.hid (by simp)
        have lg1 : wr.heap.size < (wr.alloc (.cells #[.slice xA xn xc, .int .i64 N] 49)).heap.size := by simp
        have Hx1 := Lib.hid (Hxr.out.after Hb1.out)
        have HV1 := Lib.hid (HVr.out.after Hb1.out)
        go_wp2_with fail
        refine (pickL_c xA pA xn xc pn pc xs ps _ Hx1.out.hd.len Hx1.out.hd.max Hx1.out.hd.sl HV1.out.plen (by omega) HV1.out.psl).mono ?_
        rintro e w9 ⟨h9, ok, rfl, hb9, hIn9, hok9, hl9, hr9⟩
        have g1 := (hb9.cell (p := ⟨wr.heap.size, 1, none⟩) lg1).trans dg1.out
        have lg9 : wr.heap.size < w9.heap.size := Nat.lt_of_lt_of_le lg1 hb9.size
        have Hb9 := Lib.hid (below_via Hb1.out hb9)
        have HbW9 := Lib.hid (hb.out.trans (Hb9.out.mono hb.out.size))
        have HP9 := Lib.hid (hp.out.after Hb9.out)
        have HU9 : Hid (∀ g, (Value.slice A' n' c').ownBlock = some g → g < wr.heap.size) := Lib.hid fun g hg => (hp.out.own.lt g hg).2
        have Ht2 := Htk.out
        try simp only at Ht2
        unfold pickOk at hok9
        cases hpr : pickR xs ps with
        | none =>
          rw [hpr] at hok9 Ht2
          obtain ⟨rfl, _⟩ := hok9
          simp only [List.append_nil] at Ht2
          have HPf : Hid (PrsIn w9 W.heap.size (.slice A' n' c') bs (pickL ps ((pl cs).take (k + 1)))) := Lib.hid (by rw [Ht2]; exact HP9.out)
          obtain ⟨h9A, h9n, h9c, h9xs⟩ := h9
          dsimp only [Hd.v]
          clear Ht2 Htk hp HP9 hb dg1 Hb1 Hx1 HV1 HVr d0 d1 d6 hb9 hIn9 hl9
          go_wp2_with fail
          go_roundw
          case rel => exact ⟨k + 1, n', A', c', bs, by omega, by go_num, rfl, by omega, HbW9, HPf, hpn⟩
          case measure => simp [intOf]; omega
        | some q =>
          rw [hpr] at hok9 Ht2
          obtain ⟨rfl, hq⟩ := hok9
          simp only at Ht2
          obtain ⟨h9A, h9n, h9c, h9xs⟩ := h9
          have Hq : Hid (h9xs = q) := Lib.hid hq
          have Hqm : Hid (∀ v ∈ q, v ∈ xs) := Lib.hid (pick_mem hpr)
          have HIn9 : Hid (Ct.In w9 ⟨⟨h9A, h9n, h9c, h9xs⟩, N⟩) := Lib.hid ⟨hIn9, fun v hv => Hxr.out.sz v (Hqm.out v (by rw [← Hq.out]; exact hv)), fun v hv => Hxr.out.n64 v (Hqm.out v (by rw [← Hq.out]; exact hv)), Hxr.out.N64, hr9⟩
          have Hl9 : Hid (∀ b off, h9A = some ⟨b, off, none⟩ → wr.heap.size ≤ b ∧ b < w9.heap.size) := Lib.hid fun b off hA => ⟨Nat.le_trans (by simp) (hl9 b off hA).1, (hl9 b off hA).2⟩
          have Ht3 := Lib.hid Ht2
          dsimp only [Hd.v]
          clear Ht2 Htk hp hb dg1 Hb1 Hx1 HV1 HVr d0 d1 d6 hb9 hIn9 hl9 hq
          go_wp2_with fail
          refine (qone_c h9A h9n h9c N _).mono ?_
          rintro e w10 ⟨rfl, rfl⟩
          go_wp2_with (at_builtin; go_must (
           refine wpList_appL bOkQ rfl (.tmp 34) (.tmp 39) rfl W.heap.size (.slice A' n' c') bs [⟨some ⟨w9.heap.size, 0, none⟩, 1, 1, [⟨⟨h9A, h9n, h9c, h9xs⟩, N⟩]⟩] (some ⟨w9.heap.size + 1, 0, none⟩) 1 1 rfl (HP9.out.own.after (below_two _ _ _)) rfl rfl (SlG.newAt (by simp) bOkQ.len [⟨some ⟨w9.heap.size, 0, none⟩, 1, 1, [⟨⟨h9A, h9n, h9c, h9xs⟩, N⟩]⟩] rfl) (by rw [hpn.out]; simp [maxLen]; omega) (by rw [hpn.out]; simp; omega) (by have := HbW9.out.size; simp; omega) ?_
           intro v3 w2 hv hg hloc
           obtain ⟨A3, c3, rfl⟩ := hv.isSlice
           have HX2 := Lib.hid (below_two w9 (.cells #[.slice h9A h9n h9c, .int .i64 N] 49) (.cells #[.slice (some ⟨w9.heap.size, 0, none⟩) 1 1] 30))
           have Hb2 := Lib.hid ((HbW9.out.trans (HX2.out.mono HbW9.out.size)).grown hg (by have := HbW9.out.size; simp; omega) (fun g hg' => (HP9.out.own.lt g hg').1))
           have HSf : Hid (Safe ((w9.alloc (.cells #[.slice h9A h9n h9c, .int .i64 N] 49)).alloc (.cells #[.slice (some ⟨w9.heap.size, 0, none⟩) 1 1] 30)) (Value.slice A' n' c').ownBlock ⟨some ⟨w9.heap.size, 0, none⟩, 1, 1, [⟨⟨h9A, h9n, h9c, h9xs⟩, N⟩]⟩) := Lib.hid (Safe.new ⟨rfl, by unfold maxLen; omega, (SlG.new cOk.len [⟨⟨h9A, h9n, h9c, h9xs⟩, N⟩] rfl).after (below_one _ _), fun c hc => by rw [List.mem_singleton] at hc; subst hc; exact HIn9.out.after HX2.out⟩ (by simp; omega) (fun e => by have := HU9.out _ e; omega) (fun b off hA => ⟨fun e => by have h1 := HU9.out _ e; have h2 := (Hl9.out b off hA).1; omega, by have h2 := (Hl9.out b off hA).2; simp; omega⟩))
           have HP2 := Lib.hid ((HP9.out.after HX2.out).more HSf.out (r := (q, N)) (by show [(h9xs, N)] = [(q, N)]; rw [Hq.out]) rfl hv hg hloc)
           have HLf : Hid ((bs ++ [(⟨some ⟨w9.heap.size, 0, none⟩, 1, 1, [⟨⟨h9A, h9n, h9c, h9xs⟩, N⟩]⟩ : Bh)]).length = n' + 1) := Lib.hid (by rw [List.length_append, hpn.out]; rfl)
           rw [HLf.out] at HP2 ⊢
           clear hv hg hloc HX2))
          have HPf : Hid (PrsIn w2 W.heap.size (.slice A3 (n' + 1) c3) (bs ++ [⟨some ⟨w9.heap.size, 0, none⟩, 1, 1, [⟨⟨h9A, h9n, h9c, h9xs⟩, N⟩]⟩]) (pickL ps ((pl cs).take (k + 1)))) := Lib.hid (by rw [Ht3.out]; exact HP2.out)
          go_roundw
          case rel => exact ⟨k + 1, n' + 1, A3, c3, _, by omega, by go_num, rfl, by omega, Hb2, HPf, HLf⟩
          case measure => simp [intOf]; omega
      · obtain rfl : k = n := by omega
        have hp1 := hp.out
        rw [show (pl cs).take k = pl cs from List.take_of_length_le (by rw [pl_len, HA.out.len]; exact Nat.le_refl _)] at hp1
        obtain ⟨A2, c2, e2, _, _, hs2⟩ := hp1.own.sl bOkQ.len
        injection e2 with e2 e3 e4
        rw [← e2] at hs2
        have hcp := plus_c A' n' c' bs wr hpn.out (by omega) hs2 (fun p hpp => (hp1.safe p hpp).in) (by rw [tot_one bs hp1.one, hpn.out]; omega)
        rw [hp1.map] at hcp
        have Hcp := Lib.hid hcp
        clear hcp hp1 hs2 e2 e3 e4 hp
        go_wp2_with fail
        refine Hcp.out.mono ?_
        rintro e w3 ⟨A3, n3, c3, os, rfl, hb3, hB3, hp3⟩
        have HF : Hid (Below w.heap.size w w3 ∧ BgIn w3 A3 n3 os ∧ pl os = pickP ps (pl cs)) := Lib.hid ⟨below_via (below_via HbW.out hb.out) hb3, hB3, by
         unfold pickP
         have h1 : ps.length = pn := Hpl.out
         have h2 : (mayBag (pl cs) && decide (ps.length ≤ 40)) = true := by rw [Hma.out, decide_eq_true (show ps.length ≤ 40 by omega)]; rfl
         rw [if_pos h2]
         exact hp3⟩
        clear hb3 hB3 hp3
        go_wp2
        go_ret
        exact ⟨_, _, _, _, rfl, HF.out⟩
end Go.Proofs.YtldaoepemofhlaaGreatDoor
namespace Go.Proofs.YtldaoepemofhlaaGreatDoor
open Go Go.RowKit Go.MapKept
set_option maxRecDepth 100000
def MapS (w : World) (b : Nat) (l : List (ByteArray × Value)) : Prop := ∃ es clk, w.heap[b]? = some (.map es clk) ∧ ((∀ e ∈ es.toList, e.born < clk) ∧ (es.toList.map (·.born)).Nodup) ∧ es.toList.map (fun e => (e.key, e.val)) = l.map (fun p => (Value.string p.1, p.2))
theorem MapS.lt {w : World} {b : Nat} {l : List (ByteArray × Value)} (h : MapS w b l) : b < w.heap.size := by
 obtain ⟨es, clk, hb, _⟩ := h
 exact (Array.getElem?_eq_some_iff.1 hb).1
theorem MapS.same {w w' : World} {b : Nat} {l : List (ByteArray × Value)} (h : MapS w b l) (hb : w'.heap[b]? = w.heap[b]?) : MapS w' b l := by
 obtain ⟨es, clk, h1, h2⟩ := h
 exact ⟨es, clk, hb.trans h1, h2⟩
theorem MapS.after {w w' : World} {b : Nat} {l : List (ByteArray × Value)} (h : MapS w b l) (hb : Below w.heap.size w w') : MapS w' b l := h.same (hb.block b h.lt)
theorem MapS.made (w : World) : MapS (w.alloc (.map #[] 0)) w.heap.size [] := ⟨#[], 0, (heap_alloc w _).1, ⟨nofun, List.nodup_nil⟩, rfl⟩
def getS (l : List (ByteArray × Value)) (k : ByteArray) : Option Value := match l with
 | [] => none
 | p :: l => if k == p.1 then some p.2 else getS l k
def putS (l : List (ByteArray × Value)) (k : ByteArray) (v : Value) : List (ByteArray × Value) := match l with
 | [] => [(k, v)]
 | p :: l => if k == p.1 then (k, v) :: l else p :: putS l k v
theorem run_checkS (w : World) (em : Bool) (k : ByteArray) : (Instr.checkKey em 10000 9 (.string k)).run Tryz.prog w = .ok () w := MapKept.run_checkKey (n := 9999) Tryz.underlying9 (by simp [IsKey]) em
theorem eqS_iff {a b : ByteArray} : (a == b) = true ↔ a = b := bytes_beq a b
theorem eqS_self (a : ByteArray) : (a == a) = true := eqS_iff.2 rfl
theorem find_nowS (k : ByteArray) : ∀ (es : List MapEntry) (l : List (ByteArray × Value)) (i : Nat), es.map (fun e => (e.key, e.val)) = l.map (fun p => (Value.string p.1, p.2)) →
 (Instr.findNow .string (.string k) es i = some none ∧ getS l k = none ∧ ∀ v, putS l k v = l ++ [(k, v)]) ∨
 ∃ j p, Instr.findNow .string (.string k) es i = some (some (i + j, p.2)) ∧ getS l k = some p.2 ∧ l[j]? = some p ∧ p.1 = k ∧ ∀ v, putS l k v = l.set j (k, v)
 | [], [], i, _ => .inl ⟨rfl, rfl, fun _ => rfl⟩
 | [], _ :: _, _, h => by simp at h
 | _ :: _, [], _, h => by simp at h
 | e :: es, p :: l, i, h => by
   simp only [List.map_cons, List.cons.injEq, Prod.mk.injEq] at h
   obtain ⟨⟨h1, h2⟩, h3⟩ := h
   have hs : Instr.sameNow .string (.string k) (.string p.1) = some (k == p.1) := rfl
   cases hk : k == p.1
   · rw [hk] at hs
     rcases find_nowS k es l (i + 1) h3 with ⟨h4, h5, h6⟩ | ⟨j, q, h4, h5, h6, h7, h8⟩
     · refine .inl ⟨?_, ?_, fun v => ?_⟩
       · simp only [Instr.findNow, h1, hs, h4]
       · rw [getS, hk]; exact h5
       · rw [putS, hk, h6 v]; rfl
     · refine .inr ⟨j + 1, q, ?_, ?_, h6, h7, fun v => ?_⟩
       · simp only [Instr.findNow, h1, hs, h4]
         rw [show i + 1 + j = i + (j + 1) by omega]
       · rw [getS, hk]; exact h5
       · rw [putS, hk, h8 v]; rfl
   · rw [hk] at hs
     refine .inr ⟨0, p, ?_, ?_, rfl, (eqS_iff.1 hk).symm, fun v => ?_⟩
     · simp only [Instr.findNow, h1, hs, h2, Nat.add_zero]
     · rw [getS, hk]; rfl
     · rw [putS, hk]; rfl
theorem run_findS (k : ByteArray) (w : World) (es : List MapEntry) (l : List (ByteArray × Value)) (h : es.map (fun e => (e.key, e.val)) = l.map (fun p => (Value.string p.1, p.2))) :
 ((Instr.findKey 9 (.string k) es).run Tryz.prog w = .ok none w ∧ getS l k = none ∧ ∀ v, putS l k v = l ++ [(k, v)]) ∨
 ∃ j p, (Instr.findKey 9 (.string k) es).run Tryz.prog w = .ok (some (j, p.2)) w ∧ getS l k = some p.2 ∧ l[j]? = some p ∧ p.1 = k ∧ ∀ v, putS l k v = l.set j (k, v) := by
 rcases find_nowS k es l 0 h with ⟨h1, h2⟩ | ⟨j, p, h1, h2⟩
 · exact .inl ⟨MapKept.run_findKey Tryz.underlying9 h1, h2⟩
 · exact .inr ⟨j, p, by rw [MapKept.run_findKey Tryz.underlying9 h1, Nat.zero_add], h2⟩
section
variable {MT E : TypeId}
theorem run_lookS {w : World} {b : Nat} {l : List (ByteArray × Value)} (hm : Tryz.prog.underlying MT = some (.map 9 E)) (z : Value) (hz : (zeroValue E).run Tryz.prog w = .ok z w) (h : MapS w b l) (k : ByteArray) :
 (Instr.lookup MT (.map (some b)) (.string k) false).run Tryz.prog w = .ok ((getS l k).getD z) w := by
 obtain ⟨es, clk, hb, _, he⟩ := h
 rcases run_findS k w es.toList l he with ⟨h1, h2, _⟩ | ⟨j, p, h1, h2, _⟩
 · rw [h2]
   simp [Instr.lookup, run_underlying hm, MapKept.run_getObj_map hb, run_checkS, h1, hz, Result.andThen]
 · rw [h2]
   simp [Instr.lookup, run_underlying hm, MapKept.run_getObj_map hb, run_checkS, h1, Result.andThen]
theorem run_staysS (w : World) (a : ByteArray) : (Instr.keyThatStays (Value.string a) (Value.string a)).run Tryz.prog w = .ok (Value.string a) w := by
 have h : Instr.sameBits 10000 (Value.string a) (Value.string a) = true := by
  simp [Instr.sameBits, bytes_beq]
 unfold Instr.keyThatStays
 rw [h]
 simp
theorem grown_setS {w : World} {b : Nat} {o0 : Obj} (hb : w.heap[b]? = some o0) (o : Obj) : w.grownBy { w with heap := w.heap.setIfInBounds b o } (some b) := ⟨rfl, rfl, rfl, by simp, fun i _ hi => (heap_set hb).2 i (fun e => hi (by rw [e]))⟩
end
end Go.Proofs.YtldaoepemofhlaaGreatDoor
namespace Go.Proofs.YtldaoepemofhlaaGreatDoor
open Go Go.RowKit
set_option maxRecDepth 100000
theorem cat_run (w : World) (x y : List UInt8) (h : x.length + y.length ≤ 10000000) : (Op.stringOp .add ⟨x.toArray⟩ ⟨y.toArray⟩).run Tryz.prog w = .ok (.string ⟨(x ++ y).toArray⟩) w := by
 rw [run_string_add_sum w ⟨x.toArray⟩ ⟨y.toArray⟩ (by show x.toArray.size + y.toArray.size ≤ _; simp; omega)]
 congr 2
set_option maxHeartbeats 400000 in
theorem text_text (x : Val) (m : Int) (w : World) (hk0 : (x.k == 0) = false) (hk1 : (x.k == 1) = false) (hk2 : (x.k == 2) = false) (hk : (x.k == 3) = true) (hs : x.s.size ≤ 2000) (hm : w.cell? ⟨0, 0, none⟩ = some (.int .i64 m)) :
 Calls Tryz.prog 51 #[x.v] w fun e w' => e = .returned (.string ⟨([39] ++ sub1 39 [39, 39] x.s.data.toList ++ [39]).toArray⟩) ∧ Below w.heap.size w w' := by
 have hlt : 0 < w.heap.size := World.block_lt_of_cell? _ _ hm
 have hr := replaceAll_sub1 39 [39, 39] x.s.data.toList (by simp)
 have hlen := sub1_length 39 [39, 39] x.s.data.toList
 have hsz : x.s.data.toList.length = x.s.size := rfl
 rw [hsz] at hlen
 generalize sub1 39 [39, 39] x.s.data.toList = r at hr hlen ⊢
 have Hr := Lib.hid hr
 have hcnt : x.s.size + Lib.countB x.s ⟨#[39]⟩ * 2 ≤ 140737488355328 := by
  have := Lib.countB_mul_le ⟨#[39]⟩ (by decide) x.s.size x.s (Nat.le_refl _)
  have e1 : (⟨#[39]⟩ : ByteArray).size = 1 := rfl
  rw [e1] at this
  omega
 have c1 : ∀ w, (Op.stringOp .add ⟨#[39]⟩ ⟨r.toArray⟩).run Tryz.prog w = .ok (.string ⟨([39] ++ r).toArray⟩) w := fun w => cat_run w [39] r (by simp only [List.length_cons, List.length_nil] at hlen ⊢; omega)
 have c2 : ∀ w, (Op.stringOp .add ⟨([39] ++ r).toArray⟩ ⟨#[39]⟩).run Tryz.prog w = .ok (.string ⟨([39] ++ r ++ [39]).toArray⟩) w := fun w => cat_run w ([39] ++ r) [39] (by simp only [List.length_append, List.length_cons, List.length_nil] at hlen ⊢; omega)
 clear hr hsz hlen
 generalize ([39] ++ r) = r1 at c1 c2 ⊢
 generalize (r1 ++ [39]) = r2 at c2 ⊢
 go_enter Tryz.func51, Tryz.ntmps51
 go_wp2_with fail
 refine (Tryz.strings_ReplaceAll _ _ _ m _ (by omega) ?_ (by decide) hcnt).mono ?_
 · rw [World.cell?_alloc_past _ _ _ hlt]; exact hm
 rintro e w1 ⟨rfl, hb1⟩
 have e1 : Lib.replaceAll x.s.data.toList (⟨#[39]⟩ : ByteArray).data.toList (⟨#[39, 39]⟩ : ByteArray).data.toList = r := Hr.out
 rw [e1]
 clear e1
 have hb : Below w.heap.size w w1 := (below_one _ _).trans (hb1.mono (by simp))
 clear hb1 hcnt
 go_wp2
 go_ret
 exact ⟨rfl, hb⟩
theorem below_grow (w : World) (k : Nat) (os : Array Obj) : Below w.heap.size w (Sort.grow (w.drewN k) os) :=
 ⟨rfl, rfl, rfl, by show w.heap.size ≤ (w.heap ++ os).size; simp, fun i hi => by
   show (w.heap ++ os)[i]? = w.heap[i]?
   rw [Array.getElem?_append_left hi]⟩
def Tab (w : World) : Prop := Lib.TabIs Tryz.prog w "internal/strconv.uint64pow10" .u64 Lib.pow10Tab
theorem Tab.after {w w' : World} (h : Tab w) (hb : Below w.heap.size w w') (hg : 1 < w.heap.size) : Tab w' := by
 unfold Tab Lib.TabIs at *
 have hn : Tryz.prog.globalNamed "internal/strconv.uint64pow10" = some 1 := by kernel_rfl
 have e : w'.var? Tryz.prog "internal/strconv.uint64pow10" = w.var? Tryz.prog "internal/strconv.uint64pow10" := by
  unfold World.var?
  rw [hn]
  simp only [Option.bind_some, hb.block _ hg]
 rw [e]
 exact h
set_option maxHeartbeats 400000 in
theorem text_null (x : Val) (w : World) (h : (x.k == 0) = true) : Calls Tryz.prog 51 #[x.v] w fun e w' => e = .returned (.string ⟨#[110, 117, 108, 108]⟩) ∧ Below w.heap.size w w' := by
 go_enter Tryz.func51, Tryz.ntmps51
 go_wp2
 go_ret
 exact ⟨rfl, below_one _ _⟩
set_option maxHeartbeats 400000 in
theorem text_false (x : Val) (w : World) (h0 : (x.k == 0) = false) (h : (x.k == 1) = true) (hn : (x.n == 0) = true) : Calls Tryz.prog 51 #[x.v] w fun e w' => e = .returned (.string ⟨#[102, 97, 108, 115, 101]⟩) ∧ Below w.heap.size w w' := by
 go_enter Tryz.func51, Tryz.ntmps51
 go_wp2
 go_ret
 exact ⟨rfl, below_one _ _⟩
set_option maxHeartbeats 400000 in
theorem text_true (x : Val) (w : World) (h0 : (x.k == 0) = false) (h : (x.k == 1) = true) (hn : (x.n == 0) = false) : Calls Tryz.prog 51 #[x.v] w fun e w' => e = .returned (.string ⟨#[116, 114, 117, 101]⟩) ∧ Below w.heap.size w w' := by
 go_enter Tryz.func51, Tryz.ntmps51
 go_wp2
 go_ret
 exact ⟨rfl, below_one _ _⟩
set_option maxHeartbeats 400000 in
theorem text_int (x : Val) (w : World) (h0 : (x.k == 0) = false) (h1 : (x.k == 1) = false) (h : (x.k == 2) = true) (hn : -9223372036854775808 ≤ x.n ∧ x.n ≤ 9223372036854775807) (hT : Tab w) (hg : 1 < w.heap.size) :
 Calls Tryz.prog 51 #[x.v] w fun e w' => e = .returned (.string ⟨(Lib.itoa x.n).toArray⟩) ∧ Below w.heap.size w w' := by
 have HT := Lib.hid hT
 have Hn := Lib.hid hn
 clear hT hn
 go_enter Tryz.func51, Tryz.ntmps51
 go_wp2_with fail
 refine (Tryz.strconv_Itoa _ Hn.out.1 Hn.out.2 _ (HT.out.after (below_one _ _) hg)).mono ?_
 rintro e w1 ⟨rfl, k, os, hw1⟩
 have hb : Below w.heap.size w w1 := by
  rw [hw1]
  exact (below_one w _).trans ((below_grow _ k os).mono (by simp))
 clear hw1
 go_wp2
 go_ret
 exact ⟨rfl, hb⟩
set_option maxHeartbeats 400000 in
theorem text_other (x : Val) (w : World) (h0 : (x.k == 0) = false) (h1 : (x.k == 1) = false) (h2 : (x.k == 2) = false) (h3 : (x.k == 3) = false) : Calls Tryz.prog 51 #[x.v] w fun e w' => e = .returned (.string ⟨#[63]⟩) ∧ Below w.heap.size w w' := by
 go_enter Tryz.func51, Tryz.ntmps51
 go_wp2
 go_ret
 exact ⟨rfl, below_one _ _⟩
structure Gl (w : World) : Prop where
 m : ∃ m : Int, w.cell? ⟨0, 0, none⟩ = some (.int .i64 m)
 tab : Tab w
 lt : 1 < w.heap.size
theorem Gl.after {w w' : World} (h : Gl w) (hb : Below w.heap.size w w') : Gl w' := by
 obtain ⟨⟨m, hm⟩, hT, hl⟩ := h
 exact ⟨⟨m, (hb.cell (World.block_lt_of_cell? _ _ hm)).trans hm⟩, hT.after hb hl, Nat.lt_of_lt_of_le hl hb.size⟩
theorem text_c (x : Val) (w : World) (hn : -9223372036854775808 ≤ x.n ∧ x.n ≤ 9223372036854775807) (hs : x.s.size ≤ 2000) (hG : Gl w) :
 Calls Tryz.prog 51 #[x.v] w fun e w' => e = .returned (.string ⟨(textL x).toArray⟩) ∧ Below w.heap.size w w' := by
 obtain ⟨⟨m, hm⟩, hT, hg⟩ := hG
 unfold textL
 cases h0 : x.k == 0
 · cases h1 : x.k == 1
   · cases h2 : x.k == 2
     · cases h3 : x.k == 3
       · exact text_other x w h0 h1 h2 h3
       · exact text_text x m w h0 h1 h2 h3 hs hm
     · exact text_int x w h0 h1 h2 hn hT hg
   · cases hz : x.n == 0
     · exact text_true x w h0 h1 hz
     · exact text_false x w h0 h1 hz
 · exact text_null x w h0
theorem sOk : ElOk Tryz.prog 85 9 1 16 (.string ⟨#[]⟩) rdS where
 under := Tryz.underlying85
 info := by kernel_rfl
 zs := rfl
 pos := by decide
 len := fun _ => rfl
 one := fun x u hu => by
  simp [rdS] at hu
  rcases hu with rfl; rfl
theorem sjoin_c (g n c : Nat) (l : List (List UInt8)) (w : World) (hM : Mk w g 1 n rdS l) (hn : l.length = n) (hc : n ≤ c) (hlen : (Lib.join l [44, 32]).length ≤ 10000000) (hn2 : n ≤ 1000) :
 Calls Tryz.prog 52 #[.slice (some ⟨g, 0, none⟩) n c, .string ⟨#[44, 32]⟩] w fun e w' => e = .returned (.string ⟨(Lib.join l [44, 32]).toArray⟩) ∧ Below w.heap.size w w' := by
 have e1 : ((l.map fun t => (⟨t.toArray⟩ : ByteArray)).map (·.data.toList)) = l := by
  rw [List.map_map]
  exact List.map_id'' (fun _ => rfl) l
 have h := Tryz.strings_Join g 0 c (l.map fun t => (⟨t.toArray⟩ : ByteArray)) ⟨#[44, 32]⟩ w (fun j x hx => ?_) hM.lt (by rw [List.length_map]; omega) (by rw [List.length_map]; omega) (by rw [e1]; exact Nat.le_trans hlen (by decide))
 · rw [e1, List.length_map, hn] at h
   exact h
 · rw [List.getElem?_map] at hx
   cases hl : l[j]? with
   | none => rw [hl] at hx; cases hx
   | some t =>
     rw [hl] at hx
     simp at hx
     subst hx
     have := hM.at' j t hl 0 _ rfl
     rw [Nat.mul_one, Nat.add_zero] at this
     rw [Nat.zero_add]
     exact this
set_option maxHeartbeats 1000000 in
theorem rtext_c (A : Option Addr) (n c : Nat) (xs : List Val) (w : World) (hn : xs.length = n) (hn1 : n ≤ 200) (hs : Sl w A xs) (hx64 : ∀ x ∈ xs, -9223372036854775808 ≤ x.n ∧ x.n ≤ 9223372036854775807) (hz : ∀ x ∈ xs, x.s.size ≤ 2000) (hG : Gl w) :
 Calls Tryz.prog 32 #[.slice A n c] w fun en w' => en = .returned (.string ⟨(rowT xs).toArray⟩) ∧ Below w.heap.size w w' := by
 obtain ⟨cells, hcs, hmk⟩ := make_run sOk n (by omega) (by unfold maxLen; omega)
 obtain ⟨R, hR⟩ : ∃ R, rowT xs = R := ⟨_, rfl⟩
 rw [hR]
 have HR := Lib.hid hR
 clear hR
 have Hs := Lib.hid hs
 have Hn := Lib.hid hn
 have H6 := Lib.hid hx64
 have Hz := Lib.hid hz
 have HG := Lib.hid hG
 have Hcs := Lib.hid hcs
 clear hs hn hx64 hz hG hcs
 go_enter Tryz.func32, Tryz.ntmps32
 go_wp2_with fail
 have Hmk : Hid (Mk (w.alloc (.cells cells 9)) w.heap.size 1 n rdS []) := Mk.new w cells _ (by rw [Hcs.out])
 have Hb1 : Hid (Below w.heap.size w (w.alloc (.cells cells 9))) := below_one _ _
 clear hmk Hcs
 go_loopw [11] (fun i wr => ∃ k : Nat, k ≤ n ∧ i = .int .i64 k ∧ Hid (Below w.heap.size w wr) ∧ Hid (Mk wr w.heap.size 1 n rdS ((xs.take k).map textL))) (fun i _ => n - (intOf i).toNat)
 case atStart => exact ⟨0, Nat.zero_le _, rfl, Hb1, Hmk⟩
 case round =>
  obtain ⟨k, hk, rfl, hb, hM⟩ := hrel
  clear Hmk Hb1
  by_cases hlt : k < n
  · obtain ⟨b, off, x, rfl, hblt, hx, c0, c1, c2⟩ := Hs.out.at3 (by rw [Hn.out]; exact hlt)
    have d0 := (hb.out.cell (p := ⟨b, off + k * 3, none⟩) hblt).trans c0
    have d1 := (hb.out.cell (p := ⟨b, off + k * 3 + 1, none⟩) hblt).trans c1
    have d2 := (hb.out.cell (p := ⟨b, off + k * 3 + 2, none⟩) hblt).trans c2
    have l0 : b < wr.heap.size := Nat.lt_of_lt_of_le hblt hb.out.size
    have hmem := List.mem_of_getElem? hx
    have H6x := Lib.hid (H6.out x hmem)
    have Hzx := Lib.hid (Hz.out x hmem)
    have Hx := Lib.hid hx
    clear c0 c1 c2 hx hmem hblt
    go_wp2_with fail
    have hb2 := hb.out.alloc hb.out.size (.cells #[.int .i64 x.k, .int .i64 x.n, .string x.s] 39)
    refine (text_c x _ H6x.out Hzx.out (HG.out.after hb2)).mono ?_
    rintro en w1 ⟨rfl, hb1⟩
    have hM1 := (hM.out.same (w' := wr.alloc (.cells #[.int .i64 x.k, .int .i64 x.n, .string x.s] 39)) (by simp) (Below.heap_alloc _ _ _ hM.out.lt)).after hb1 (by have := hM.out.lt; simp; omega)
    have hb3 := hb2.trans (hb1.mono hb2.size)
    have hlen : ((xs.take k).map textL).length = k := by rw [List.length_map, List.length_take, Hn.out]; omega
    obtain ⟨u0, f0⟩ := hM1.all k (by omega)
    have z0 := hM1.thaw k
    have hset := hM1.set1 sOk.len (textL x) (.string ⟨(textL x).toArray⟩) rfl (by rw [hlen]; exact hlt)
    rw [hlen] at hset
    have e3 : (xs.take k).map textL ++ [textL x] = (xs.take (k + 1)).map textL := by
     rw [List.take_add_one, Hx.out]
     simp
    rw [e3] at hset
    have Hset := Lib.hid hset
    have Hb3 := Lib.hid (hb3.setCell (Nat.le_refl _) (p := ⟨w.heap.size, k, none⟩) (.string ⟨(textL x).toArray⟩))
    clear hb1 hb2 hb3 hM1 hlen hset e3 hb hM
    obtain ⟨T, hT⟩ : ∃ T, (⟨(textL x).toArray⟩ : ByteArray) = T := ⟨_, rfl⟩
    rw [hT] at Hset Hb3 ⊢
    go_wp2_with fail
    go_roundw
    case rel => exact ⟨k + 1, by omega, by go_num, Hb3, Hset⟩
    case measure => simp [intOf]; omega
  · obtain rfl : k = n := by omega
    have hM2 := hM.out
    rw [show xs.take k = xs from List.take_of_length_le (by rw [Hn.out]; omega)] at hM2
    have hlen := body_len xs 5000 (fun x hx => text_len x (H6.out x hx) (Hz.out x hx))
    rw [Hn.out] at hlen
    have hlen2 : (bodyL xs).length ≤ 2000000 := by omega
    have Hj := Lib.hid (sjoin_c w.heap.size k k (xs.map textL) wr hM2 (by rw [List.length_map]; exact Hn.out) (Nat.le_refl _) (by show (bodyL xs).length ≤ _; omega) (by omega))
    have c1 : ∀ w, (Op.stringOp .add ⟨#[40]⟩ ⟨(bodyL xs).toArray⟩).run Tryz.prog w = .ok (.string ⟨([40] ++ bodyL xs).toArray⟩) w := fun w => cat_run w [40] (bodyL xs) (by simp only [List.length_cons, List.length_nil]; omega)
    have c2 : ∀ w, (Op.stringOp .add ⟨([40] ++ bodyL xs).toArray⟩ ⟨#[41]⟩).run Tryz.prog w = .ok (.string ⟨([40] ++ bodyL xs ++ [41]).toArray⟩) w := fun w => cat_run w ([40] ++ bodyL xs) [41] (by simp only [List.length_append, List.length_cons, List.length_nil]; omega)
    have hbody : bodyL xs = Lib.join (xs.map textL) [44, 32] := rfl
    rw [← hbody] at Hj
    have hR2 : [40] ++ bodyL xs ++ [41] = R := HR.out
    rw [hR2] at c2
    clear hM2 hM hlen hlen2 hbody hR2 HR
    generalize bodyL xs = r at Hj c1 c2
    generalize ([40] ++ r) = r1 at c1 c2
    go_wp2_with fail
    refine Hj.out.mono ?_
    rintro en w1 ⟨rfl, hb1⟩
    have Hb1 := Lib.hid (hb.out.trans (hb1.mono hb.out.size))
    clear hb1 hb Hj
    go_wp2
    go_ret
    exact ⟨rfl, Hb1.out⟩
end Go.Proofs.YtldaoepemofhlaaGreatDoor
