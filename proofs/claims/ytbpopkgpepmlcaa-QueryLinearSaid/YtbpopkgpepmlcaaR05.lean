/-
  Part 5 of 6 of what the proof leans on: each part below says what it proves, and of what; no condition besides.
-/
import Derived.Test.YtbpopkgpepmlcaaR04
import Derived.Lib.SliceRun
import Derived.Deep.RegionHeld3
set_option linter.unusedVariables false
set_option linter.unusedSimpArgs false
namespace Go.Proofs.Ytbpopkgpepmlcaa
open Go Go.RowKit
set_option maxRecDepth 100000
def ApartC (w : World) (A : Option Addr) (ol : List Ct) : Prop := ∀ c ∈ ol, Ct.In w c ∧ ∀ g o, A = some ⟨g, o, none⟩ → OutC w g c
theorem ApartC.nil (w : World) (A : Option Addr) : ApartC w A [] := nofun
theorem ApartC.after {w w' : World} {A : Option Addr} {ol : List Ct} (h : ApartC w A ol) (hb : Below w.heap.size w w') : ApartC w' A ol := fun c hc => ⟨(h c hc).1.after hb, fun g o hA => ((h c hc).2 g o hA).after hb⟩
theorem ApartC.each {w : World} {A : Option Addr} {ol : List Ct} (h : ApartC w A ol) : ∀ c ∈ ol, Ct.In w c := fun c hc => (h c hc).1
theorem grown_ct {w9 X w2 : World} {u u2 : Option Nat} {c : Ct} (hin : Ct.In w9 c) (hne : c.h.xs = [] ∨ ∃ b off, c.h.A = some ⟨b, off, none⟩ ∧ u ≠ some b ∧ b < w9.heap.size) (hX : Below w9.heap.size w9 X) (hg : X.grownBy w2 u) (hloc : u2 = u ∨ u2 = some X.heap.size) : Ct.In w2 c ∧ ∀ g, u2 = some g → OutC w2 g c := by
 rcases hne with h0 | ⟨b, off, hA, hub, hlt⟩
 · have h1 : Ct.In w2 c := ⟨⟨hin.hd.len, hin.hd.max, .inl h0⟩, hin.sz, hin.n64, hin.N64, hin.room⟩
   exact ⟨h1, fun g _ => ⟨h1, .inl h0⟩⟩
 · have hblk : w2.heap[b]? = w9.heap[b]? := (hg.block b (Nat.lt_of_lt_of_le hlt hX.size) (fun e => hub e.symm)).trans (hX.block b hlt)
   have hsz : w9.heap.size ≤ w2.heap.size := Nat.le_trans hX.size hg.size
   have h1 : Ct.In w2 c := by
    refine ⟨⟨hin.hd.len, hin.hd.max, ?_⟩, hin.sz, hin.n64, hin.N64, hin.room⟩
    rcases hin.hd.sl with h0 | ⟨b', off', hA', hlt', hc⟩
    · exact .inl h0
    · rw [hA] at hA'
      cases hA'
      have hcell : ∀ j, w2.cell? ⟨b, j, none⟩ = w9.cell? ⟨b, j, none⟩ := fun j => by simp only [World.cell?, hblk]
      exact .inr ⟨b, off, hA, Nat.lt_of_lt_of_le hlt hsz, fun i a ha => by rw [hcell, hcell, hcell]; exact hc i a ha⟩
   refine ⟨h1, fun g hg2 => ⟨h1, .inr ⟨b, off, hA, ?_, Nat.lt_of_lt_of_le hlt hsz⟩⟩⟩
   rintro rfl
   rcases hloc with e | e
   · rw [e] at hg2
     exact hub hg2
   · rw [e] at hg2
     cases hg2
     have := hX.size
     omega
theorem ApartC.app {w9 X w2 : World} {A' A2 : Option Addr} {m c' m2 c2 : Nat} {ol : List Ct} {h : Hd} {N : Int} (hA : ApartC w9 A' ol) (hX : Below w9.heap.size w9 X) (hg : X.grownBy w2 (Value.slice A' m c').ownBlock) (hloc : (Value.slice A2 m2 c2).ownBlock = (Value.slice A' m c').ownBlock ∨ (Value.slice A2 m2 c2).ownBlock = some X.heap.size)
 (hx : Ct.In w9 ⟨h, N⟩) (hx2 : ∀ b off, h.A = some ⟨b, off, none⟩ → (Value.slice A' m c').ownBlock ≠ some b ∧ b < w9.heap.size) (hp : ∀ g o t, A' = some ⟨g, o, t⟩ → t = none) : ApartC w2 A2 (ol ++ [⟨h, N⟩]) := by
 intro c hc
 have key : Ct.In w9 c ∧ (c.h.xs = [] ∨ ∃ b off, c.h.A = some ⟨b, off, none⟩ ∧ (Value.slice A' m c').ownBlock ≠ some b ∧ b < w9.heap.size) := by
  rcases List.mem_append.1 hc with hc | hc
  · refine ⟨(hA c hc).1, ?_⟩
    cases hA' : A' with
    | none =>
      rcases (hA c hc).1.hd.sl with h0 | ⟨b, off, hb, hlt, _⟩
      · exact .inl h0
      · exact .inr ⟨b, off, hb, nofun, hlt⟩
    | some ad =>
      obtain ⟨g, o, t⟩ := ad
      obtain rfl := hp g o t hA'
      rcases ((hA c hc).2 g o hA').2 with h0 | ⟨b, off, hb, hne, hlt⟩
      · exact .inl h0
      · refine .inr ⟨b, off, hb, fun e => hne ?_, hlt⟩
        injection e with e
        exact e.symm
  · rw [List.mem_singleton] at hc
    subst hc
    refine ⟨hx, ?_⟩
    rcases hx.hd.sl with h0 | ⟨b, off, hb, _, _⟩
    · exact .inl h0
    · exact .inr ⟨b, off, hb, hx2 b off hb⟩
 have h2 := grown_ct key.1 key.2 hX hg hloc
 exact ⟨h2.1, fun g o e => h2.2 g (by rw [e]; rfl)⟩
theorem OwnG.plain {w : World} {B m c : Nat} {E : TypeId} {A : Option Addr} {ol : List Ct} (h : OwnG w B E 2 rdC (.slice A m c) ol) : ∀ g o t, A = some ⟨g, o, t⟩ → t = none := by
 intro g o t hA
 rcases h.2 with ⟨hv, _⟩ | ⟨g', cap, cur, hv, _⟩
 · injection hv with e
   rw [hA] at e
   cases e
 · injection hv with e
   rw [hA] at e
   cases e
   rfl
theorem OwnG.setN {w : World} {B g m c : Nat} {ol : List Ct} {h : Hd} {N : Int} (ho : OwnG w B 46 2 rdC (.slice (some ⟨g, 0, none⟩) (m + 1) c) (ol ++ [⟨h, N⟩])) (hm : ol.length = m) (N1 : Int) : OwnG (w.setCell ⟨g, m * 2 + 1, none⟩ (.int .i64 N1)) B 46 2 rdC (.slice (some ⟨g, 0, none⟩) (m + 1) c) (ol ++ [⟨h, N1⟩]) := by
 obtain ⟨h1, h2⟩ := ho
 have hfl : (ol.flatMap rdC).length = m * 2 := by rw [flat_len cOk.len, hm]
 refine ⟨?_, ?_⟩
 · rw [flat_len cOk.len]
 · rcases h2 with ⟨hv, _⟩ | ⟨g', cap, cur, hv, hB, hh, hle, hmx, hsz, htk⟩
   · cases hv
   · injection hv with e1 e2 e3
     cases e1
     subst e3
     have hlen : (ol ++ [(⟨h, N⟩ : Ct)]).length = m + 1 := by rw [List.length_append, hm]; rfl
     have hlen1 : (ol ++ [(⟨h, N1⟩ : Ct)]).length = m + 1 := by rw [List.length_append, hm]; rfl
     rw [hlen] at htk hle
     refine .inr ⟨g, c, cur.setIfInBounds (m * 2 + 1) (.int .i64 N1), by rw [hlen1], hB, heap_setCell_same _ _ _ _ _ _ hh, by rw [hlen1]; exact hle, hmx, by rw [Array.size_setIfInBounds]; exact hsz, ?_⟩
     rw [hlen1, Array.toList_setIfInBounds, List.take_set, htk, List.flatMap_append, List.flatMap_append, List.set_append_right _ _ (by omega), hfl, show m * 2 + 1 - m * 2 = 1 by omega]
     rfl
structure MrgSaid (w : World) (A : Option Addr) (ks : List Ct) (A' : Option Addr) (m c' : Nat) (ol : List Ct) (w' : World) : Prop where
 len : ol.length = m
 le : m ≤ ks.length
 own : OwnG w' w.heap.size 46 2 rdC (.slice A' m c') ol
 apart : ApartC w' A' ol
 mi : ∃ p, p.Perm (pl ks) ∧ MI p (pl ol)
 below : ∀ w0 B, Below B w0 w → (∀ g off, A = some ⟨g, off, none⟩ → B ≤ g) → B ≤ w0.heap.size → Below B w0 w'
structure SrtSaid (w : World) (A : Option Addr) (ks ks' : List Ct) (w' : World) : Prop where
 perm : ks'.Perm ks
 asc : ks'.Pairwise fun x y => leR x.h.xs y.h.xs = true
 sl : SlG w' A 2 rdC ks'
 each : ∀ c ∈ ks', Ct.In w' c
 below : ∀ w0 B, Below B w0 w → (∀ g off, A = some ⟨g, off, none⟩ → B ≤ g) → B ≤ w0.heap.size → Below B w0 w'
 size : w.heap.size ≤ w'.heap.size
theorem sortAny_c (A : Option Addr) (n c : Nat) (ks : List Ct) (w : World) (hn : ks.length = n) (hn1 : n ≤ 1000000) (hM : n = 0 ∨ ∃ g off, A = some ⟨g, off, none⟩ ∧ Wr w g off ks ∧ ∀ c ∈ ks, OutC w g c) :
 Calls Try.prog 56 #[.slice A n c, .func (.func 57) #[] #[]] w fun e w' => e = .returned (.tuple #[]) ∧ ∃ ks', SrtSaid w A ks ks' w' := by
 by_cases h0 : n = 0
 · subst h0
   have : ks = [] := List.eq_nil_of_length_eq_zero hn
   subst this
   refine (sortC0_c A c w).mono ?_
   rintro e w' ⟨rfl, rfl⟩
   exact ⟨rfl, [], List.Perm.refl _, List.Pairwise.nil, .inl rfl, nofun, fun w0 B h _ _ => h, Nat.le_refl _⟩
 · rcases hM with h | ⟨g, off, rfl, hW, hO⟩
   · exact absurd h h0
   · refine (sortC_c g off n c ks w hn hn1 hW hO).mono ?_
     rintro e w' ⟨rfl, ks', h1, h2, h3, h4, h5, h6⟩
     exact ⟨rfl, ks', h1, h2, h3.slG, fun c hc => (h4 c hc).1, fun w0 B hb hg hB => h5 w0 B hb (hg g off rfl) hB, h6⟩
theorem pairwise_take {l : List Ct} (h : l.Pairwise fun x y => leR x.h.xs y.h.xs = true) (k : Nat) (x : Ct) (hx : l[k]? = some x) : ∀ y ∈ pl (l.take k), leR y.1 x.h.xs = true := by
 intro y hy
 obtain ⟨c, hc, rfl⟩ := List.mem_map.1 hy
 obtain ⟨i, hi, hic⟩ := List.getElem_of_mem hc
 rw [List.length_take] at hi
 rw [List.getElem_take] at hic
 obtain ⟨hk, hkx⟩ := List.getElem?_eq_some_iff.1 hx
 have := List.pairwise_iff_getElem.1 h i k (by omega) hk (by omega)
 rw [hic, hkx] at this
 exact this
theorem pl_take_succ {l : List Ct} {k : Nat} {x : Ct} (hx : l[k]? = some x) : pl (l.take (k + 1)) = pl (l.take k) ++ [(x.h.xs, x.N)] := by
 unfold pl
 rw [List.take_add_one, hx, List.map_append]
 rfl
theorem pl_split {ol : List Ct} {M : Bg} {r : List Val} {m : Int} (h : pl ol = M ++ [(r, m)]) : ∃ (ol' : List Ct) (h' : Hd) (N : Int), ol = ol' ++ [⟨h', N⟩] ∧ h'.xs = r ∧ N = m ∧ pl ol' = M := by
 have hne : ol ≠ [] := by
  rintro rfl
  have := congrArg List.length h
  simp [pl] at this
 refine ⟨ol.dropLast, (ol.getLast hne).h, (ol.getLast hne).N, (List.dropLast_concat_getLast hne).symm, ?_⟩
 have e : pl ol = pl ol.dropLast ++ [((ol.getLast hne).h.xs, (ol.getLast hne).N)] := by
  have := congrArg pl (List.dropLast_concat_getLast hne).symm
  rw [this, pl_app]
  rfl
 rw [e] at h
 have h2 := List.append_inj' h rfl
 have h3 := List.cons.inj h2.2
 exact ⟨congrArg Prod.fst h3.1, congrArg Prod.snd h3.1, h2.1⟩
set_option maxHeartbeats 4000000 in
theorem merged_c (A : Option Addr) (n c : Nat) (ks : List Ct) (w : World) (hn : ks.length = n) (hn1 : n ≤ 100000) (hM : n = 0 ∨ ∃ g off, A = some ⟨g, off, none⟩ ∧ Wr w g off ks ∧ ∀ c ∈ ks, OutC w g c) (hl : ∀ c ∈ ks, c.h.xs.length ≤ 100000) (hbd : Bd 1000000000 (pl ks)) :
 Calls Try.prog 42 #[.slice A n c] w fun e w' => ∃ A' m c' ol, e = .returned (.slice A' m c') ∧ MrgSaid w A ks A' m c' ol w' := by
 have HS := Lib.hid (sortAny_c A n c ks w hn (by omega) hM)
 have Hn := Lib.hid hn
 have Hl := Lib.hid hl
 have Hbd := Lib.hid hbd
 clear hn hl hbd hM
 go_enter Try.func42, Try.ntmps42
 go_wp2_with fail
 refine HS.out.mono ?_
 rintro e W ⟨rfl, ls, hS⟩
 have Hls : Hid (ls.length = n) := Lib.hid (by rw [hS.perm.length_eq, Hn.out])
 have HS2 := Lib.hid hS
 clear hS HS
 go_wp2_with fail
 go_loopw [3, 10] (fun v i wr => ∃ (k m : Nat) (A' : Option Addr) (c' : Nat) (ol : List Ct), k ≤ n ∧ m ≤ k ∧ i = .int .i64 k ∧ v = .slice A' m c' ∧ Hid (ol.length = m) ∧ Hid (Below W.heap.size W wr) ∧ Hid (OwnG wr W.heap.size 46 2 rdC (.slice A' m c') ol) ∧ Hid (ApartC wr A' ol) ∧ Hid (MI (pl (ls.take k)) (pl ol))) (fun _ i _ => n - (intOf i).toNat)
 case atStart => exact ⟨0, 0, none, 0, [], Nat.zero_le _, Nat.le_refl _, rfl, rfl, Lib.hid rfl, Lib.hid (Below.refl _ _), Lib.hid (OwnG.nil _ _ _), Lib.hid (ApartC.nil _ _), Lib.hid MI.start⟩
 case round =>
  obtain ⟨k, m, A', c', ol, hk, hmk, rfl, rfl, hol, hb, ho, hap, hmi⟩ := hrel
  by_cases hlt : k < n
  · obtain ⟨b, off, rfl⟩ := HS2.out.sl.some2 (k := k) (by rw [Hls.out]; exact hlt)
    obtain ⟨x, hx⟩ : ∃ x, ls[k]? = some x := ⟨_, List.getElem?_eq_getElem (by rw [Hls.out]; exact hlt)⟩
    obtain ⟨hblt, c0, c1⟩ := HS2.out.sl.cell2 hx
    have d0 := (hb.out.cell (p := ⟨b, off + k * 2, none⟩) hblt).trans c0
    have d1 := (hb.out.cell (p := ⟨b, off + k * 2 + 1, none⟩) hblt).trans c1
    have l0 : b < wr.heap.size := Nat.lt_of_lt_of_le hblt hb.out.size
    have Hx := Lib.hid ((HS2.out.each x (List.mem_of_getElem? hx)).after hb.out)
    have Hxl := Lib.hid (Hl.out x (HS2.out.perm.mem_iff.1 (List.mem_of_getElem? hx)))
    have Hpk := Lib.hid (pl_take_succ hx)
    have Hle := Lib.hid (pairwise_take HS2.out.asc k x hx)
    have HN : Hid (-1000000000 ≤ x.N ∧ x.N ≤ 1000000000) := Lib.hid (Hbd.out _ (pl_mem (HS2.out.perm.mem_iff.1 (List.mem_of_getElem? hx))))
    have HM9 : Hid (∀ y ∈ pl ol, -100000000000000 ≤ y.2 ∧ y.2 ≤ 100000000000000) := Lib.hid fun y hy => by
     have hp : Bd 1000000000 (pl (ls.take k)) := fun z hz => by
      obtain ⟨c1, hc1, rfl⟩ := List.mem_map.1 hz
      exact Hbd.out _ (pl_mem (HS2.out.perm.mem_iff.1 (List.mem_of_mem_take hc1)))
     have h1 := hmi.out.bd 1000000000 (by decide) hp hy
     have h2 : (pl (ls.take k)).length ≤ 100000 := by rw [pl_len, List.length_take]; omega
     omega
    clear c0 c1
    have hprev : Hid (∀ j, k = j + 1 → ∃ y : Ct, ls[j]? = some y ∧ Ct.In wr y ∧ wr.cell? ⟨b, off + j * 2, none⟩ = some (.slice y.h.A y.h.n y.h.c)) := Lib.hid (by
     rintro j rfl
     obtain ⟨y, hy⟩ : ∃ y, ls[j]? = some y := ⟨_, List.getElem?_eq_getElem (by rw [Hls.out]; omega)⟩
     obtain ⟨hblt, c0, c1⟩ := HS2.out.sl.cell2 hy
     exact ⟨y, hy, (HS2.out.each y (List.mem_of_getElem? hy)).after hb.out, (hb.out.cell (p := ⟨b, off + j * 2, none⟩) hblt).trans c0⟩)
    clear hx
    obtain ⟨⟨xA, xn, xc, xs⟩, N⟩ := x
    have hgo : (k : Int) < n := by omega
    have lw := hb.out.size
    have Hbw := Lib.hid (below_one wr (.cells #[.slice xA xn xc, .int .i64 N] 46))
    have dg0 : Hid ((wr.alloc (.cells #[.slice xA xn xc, .int .i64 N] 46)).cell? ⟨wr.heap.size, 0, none⟩ = some (.slice xA xn xc)) := Lib.hid (by simp)
    have dg1 : Hid ((wr.alloc (.cells #[.slice xA xn xc, .int .i64 N] 46)).cell? ⟨wr.heap.size, 1, none⟩ = some (.int .i64 N)) := Lib.hid (by simp)
    have Hb1 := Lib.hid (below_via hb.out Hbw.out)
    have Hx1 := Lib.hid (Hx.out.after Hbw.out)
    clear hb
    go_wp2_with fail
    have lg1 : wr.heap.size < (wr.alloc (.cells #[.slice xA xn xc, .int .i64 N] 46)).heap.size := by simp
    have l1 : b < (wr.alloc (.cells #[.slice xA xn xc, .int .i64 N] 46)).heap.size := Nat.lt_trans l0 lg1
    clear d0 d1
    cases hk0 : decide (0 < (k : Int))
    · have hk1 : k = 0 := by have := of_decide_eq_false hk0; omega
      have Hne : Hid (∀ p' r q, pl (ls.take k) = p' ++ [(r, q)] → cmpL r xs ≠ 0) := Lib.hid fun p' r q h => by
       rw [hk1] at h
       have := congrArg List.length h
       simp [pl] at this
      have Hmi2 := Lib.hid (hmi.out.next (n := N) Hle.out Hne.out)
      clear hk1 Hne
      refine Reg.wp_region_vals mixed (by kernel_rfl) [(15, .int .i64 (k : Nat)), (16, .bool false), (17, .bool false), (18, undef), (19, undef), (20, undef), (21, undef), (22, undef), (23, undef), (24, undef), (25, undef), (26, undef), (27, undef), (28, .bool false)] 53 rfl (by kernel_rfl) ?_ ?_
      · intro F hF w' hB
        refine ⟨?_, ?_, ?_, ?_, ?_, ?_, ?_, ?_, ?_, ?_, ?_, ?_, ?_, ?_, trivial⟩
        · exact Reg.doesV_val (ev_move rfl) (by rw [hF]; kernel_rfl) (by rw [hF]; kernel_rfl)
        · exact Reg.doesV_val (by rw [ev_gtC5 (k : Int) 0 rfl (by rw [hF]; kernel_rfl), hk0]) (by rw [hF]; kernel_rfl) (by rw [hF]; kernel_rfl)
        · exact Reg.doesV_val (ev_move rfl) (by rw [hF]; kernel_rfl) (by rw [hF]; kernel_rfl)
        · exact Reg.doesV_skip (by rw [hF]; kernel_rfl) (by rw [hF]; kernel_rfl)
        · exact Reg.doesV_skip (by rw [hF]; kernel_rfl) (by rw [hF]; kernel_rfl)
        · exact Reg.doesV_skip (by rw [hF]; kernel_rfl) (by rw [hF]; kernel_rfl)
        · exact Reg.doesV_skip (by rw [hF]; kernel_rfl) (by rw [hF]; kernel_rfl)
        · exact Reg.doesV_skip (by rw [hF]; kernel_rfl) (by rw [hF]; kernel_rfl)
        · exact Reg.doesV_skip (by rw [hF]; kernel_rfl) (by rw [hF]; kernel_rfl)
        · exact Reg.doesV_skip (by rw [hF]; kernel_rfl) (by rw [hF]; kernel_rfl)
        · exact Reg.doesV_skip (by rw [hF]; kernel_rfl) (by rw [hF]; kernel_rfl)
        · exact Reg.doesV_skip (by rw [hF]; kernel_rfl) (by rw [hF]; kernel_rfl)
        · exact Reg.doesV_skip (by rw [hF]; kernel_rfl) (by rw [hF]; kernel_rfl)
        · exact Reg.doesV_val (ev_pick false rfl (by rw [hF]; kernel_rfl)) (by rw [hF]; kernel_rfl) (by rw [hF]; kernel_rfl)
      · intro w8 hB
        simp only [Reg.putAll, Act.put, List.setIfInBounds_toArray, List.set_cons_zero, List.set_cons_succ]
        have Hb8 := Lib.hid (below_via Hb1.out hB)
        have HbW8 := Lib.hid (below_via Hbw.out hB)
        have g0 := (hB.cell (p := ⟨wr.heap.size, 0, none⟩) lg1).trans dg0.out
        have g1 := (hB.cell (p := ⟨wr.heap.size, 1, none⟩) lg1).trans dg1.out
        have lg8 : wr.heap.size < w8.heap.size := Nat.lt_of_lt_of_le lg1 hB.size
        have HOr : Hid (∀ k, (Value.slice A' m c').ownBlock = some k → k < wr.heap.size) := Lib.hid fun k hk => (ho.out.lt k hk).2
        have HO8 := Lib.hid (ho.out.after HbW8.out)
        have HA8 := Lib.hid (hap.out.after HbW8.out)
        have Hx8 := Lib.hid (Hx.out.after HbW8.out)
        clear hB dg0 dg1 Hb1 Hbw ho hap Hx Hx1
        have G0 := Lib.hid g0
        have G1 := Lib.hid g1
        have Hjn : Hid (joinR [(⟨xA, xn, xc, xs⟩ : Hd)] = xs) := Lib.hid (by simp [joinR])
        go_wp2_with fail
        go_region_held3 (fun w' => w'.cell? ⟨wr.heap.size, 0, none⟩ = some (.slice xA xn xc) ∧ w'.cell? ⟨wr.heap.size, 1, none⟩ = some (.int .i64 N)) (first | exact HGC9.out | exact HGCa.out | go_keep)
         (first
           | (go_at_call 31
              have hbj := Lib.hid (((Below.refl w8.heap.size w8).alloc (Nat.le_refl _) (.cells #[.slice xA xn xc] 44)).drew)
              have hsj : Hid (SlG (w8.alloc (.cells #[.slice xA xn xc] 44)).drew (some ⟨w8.heap.size, 0, none⟩) 1 rdH [⟨xA, xn, xc, xs⟩]) := Lib.hid ((SlG.new hOk.len [⟨xA, xn, xc, xs⟩] rfl).after (Below.refl _ _).drew)
              refine (join_c (some ⟨w8.heap.size, 0, none⟩) 1 1 [⟨xA, xn, xc, xs⟩] (w8.alloc (.cells #[.slice xA xn xc] 44)).drew rfl (by unfold maxLen; omega) hsj.out (fun h' hh' => by rw [List.mem_singleton] at hh'; subst hh'; exact Hx8.out.hd.after hbj.out) (by rw [Hjn.out]; exact Hxl.out)).mono ?_
              rintro en w9 ⟨v9, rfl, hb9, hv9⟩
              rw [Hjn.out] at hv9
              obtain ⟨h9, rfl, hIn9, hxs9, hbl9, hnc9⟩ := hv9.hd
              have Hb9 := Lib.hid (below_via Hb8.out (below_via hbj.out hb9))
              have Hb89 := Lib.hid (below_via hbj.out hb9)
              have HGC9 : Hid (w9.cell? ⟨wr.heap.size, 0, none⟩ = some (.slice xA xn xc) ∧ w9.cell? ⟨wr.heap.size, 1, none⟩ = some (.int .i64 N)) := Lib.hid ⟨(Hb89.out.cell lg8).trans G0.out, (Hb89.out.cell lg8).trans G1.out⟩
              have HO9 := Lib.hid (HO8.out.after Hb89.out)
              have Hs89 : Hid (w8.heap.size ≤ w9.heap.size) := Lib.hid Hb89.out.size
              have HOl : Hid (∀ k, (Value.slice A' m c').ownBlock = some k → k < w8.heap.size) := Lib.hid fun k hk => (HO8.out.lt k hk).2
              have HA9 := Lib.hid (HA8.out.after Hb89.out)
              have Hn9 := Lib.hid (NewC.of hIn9 hxs9 hbl9 Hx8.out hnc9)
              obtain ⟨h9A, h9n, h9c, h9xs⟩ := h9
              dsimp only [Hd.v]
              clear hv9 hIn9 hxs9 hbl9 hnc9 hb9 hbj hsj HO8 HA8 Hb8)
           | (refine step_appL cOk (by rfl) (.tmp 41) (.tmp 49) (by rfl) W.heap.size (.slice A' m c') ol [⟨⟨h9A, h9n, h9c, h9xs⟩, N⟩] (by rfl) (HO9.out.after ((Below.refl _ _).alloc (Nat.le_refl _) _)) (some ⟨w9.heap.size, 0, none⟩) 1 1 (by rfl) rfl (SlG.new cOk.len [⟨⟨h9A, h9n, h9c, h9xs⟩, N⟩] rfl) (by rw [hol.out]; simp [maxLen]; omega) (by rw [hol.out]; simp; omega) (by have := Hb9.out.size; simp; omega) ?_
              intro A2 c2 w2 hv hg hloc
              rw [hol.out] at hv hloc ⊢
              have HX := Lib.hid (below_one w9 (.cells #[.slice h9A h9n h9c, .int .i64 N] 46))
              have Hv2 := Lib.hid hv
              have Hb2 := Lib.hid ((below_al Hb9.out (.cells #[.slice h9A h9n h9c, .int .i64 N] 46)).grown hg (by have := Hb9.out.size; simp; omega) (fun k hk => (HO9.out.lt k hk).1))
              have HA2 := Lib.hid (HA9.out.app HX.out hg hloc Hn9.out.ct (fun b' off' hb' => ⟨fun e => by have h1 := (HOl.out b' e); have h2 := (Hn9.out.lt b' off' hb').1; simp at h2; omega, (Hn9.out.lt b' off' hb').2⟩) HO9.out.plain)
              have HGCa : Hid (w2.cell? ⟨wr.heap.size, 0, none⟩ = some (.slice xA xn xc) ∧ w2.cell? ⟨wr.heap.size, 1, none⟩ = some (.int .i64 N)) := Lib.hid (by
               have hlt9 : wr.heap.size < w9.heap.size := Nat.lt_of_lt_of_le lg8 Hs89.out
               have hne : some wr.heap.size ≠ (Value.slice A' m c').ownBlock := fun e => by have := HOr.out _ e.symm; omega
               have hbk : w2.heap[wr.heap.size]? = w9.heap[wr.heap.size]? := (hg.block _ (Nat.lt_of_lt_of_le hlt9 HX.out.size) hne).trans (HX.out.block _ hlt9)
               refine ⟨?_, ?_⟩
               · rw [← HGC9.out.1]; simp only [World.cell?, hbk]
               · rw [← HGC9.out.2]; simp only [World.cell?, hbk])
              clear hv hg hloc HX))
        have Hmi3 : Hid (MI (pl (ls.take (k + 1))) (pl (ol ++ [⟨⟨h9A, h9n, h9c, h9xs⟩, N⟩]))) := Lib.hid (by
         rw [Hpk.out, pl_app, pl_one]
         have e : h9xs = xs := Hn9.out.eq
         simp only [e]
         exact Hmi2.out)
        have Hol3 : Hid ((ol ++ [(⟨⟨h9A, h9n, h9c, h9xs⟩, N⟩ : Ct)]).length = m + 1) := Lib.hid (by rw [List.length_append, hol.out]; rfl)
        clear Hmi2 Hpk HGC9 HGCa HO9 HA9 Hn9 Hb9 Hb89
        go_wp2
        go_roundw
        case rel => exact ⟨k + 1, m + 1, A2, c2, ol ++ [⟨⟨h9A, h9n, h9c, h9xs⟩, N⟩], by omega, by omega, by go_num, rfl, Hol3, Hb2, Hv2, HA2, Hmi3⟩
        case measure => simp [intOf]; omega
    · obtain ⟨j, hkj⟩ : ∃ j, k = j + 1 := ⟨k - 1, by have := of_decide_eq_true hk0; omega⟩
      have hjn : j < n := by omega
      have hjx : k ≤ 9223372036854775807 := by omega
      obtain ⟨⟨⟨yA, yn, yc, ys⟩, yN⟩, hyj, hy, dq⟩ := hprev.out j hkj
      have Hy := Lib.hid (hy.after Hbw.out)
      have dq := Lib.hid ((Hbw.out.cell (p := ⟨b, off + j * 2, none⟩) l0).trans dq)
      have Hyj := Lib.hid hyj
      clear hy hyj
      cases hC : cmpL ys xs == 0
      · have Hne : Hid (∀ p' r q, pl (ls.take k) = p' ++ [(r, q)] → cmpL r xs ≠ 0) := Lib.hid fun p' r q h => by
         rw [hkj, pl_take_succ Hyj.out] at h
         have := (List.cons.inj (List.append_inj' h rfl).2).1
         have e := congrArg Prod.fst this
         simp only at e
         rw [← e]
         simpa using hC
        have Hmi2 := Lib.hid (hmi.out.next (n := N) Hle.out Hne.out)
        clear Hne
        refine Reg.wp_region_vals mixed (by kernel_rfl) [(15, .int .i64 (k : Nat)), (16, .bool true), (17, .bool true), (18, .slice (some ⟨b, off, none⟩) n c), (19, .int .i64 (k : Nat)), (20, .int .i64 (j : Nat)), (21, .pointer (some ⟨b, off + j * 2, none⟩)), (22, .pointer (some ⟨b, off + j * 2, none⟩)), (23, .slice yA yn yc), (24, .pointer (some ⟨wr.heap.size, 0, none⟩)), (25, .slice xA xn xc), (26, .int .i64 (cmpL ys xs)), (27, .bool false), (28, .bool false)] 53 rfl (by kernel_rfl) ?_ ?_
        · intro F hF w' hB
          have q0 := (hB.cell (p := ⟨b, off + j * 2, none⟩) l1).trans dq.out
          have jx := (hB.cell (p := ⟨wr.heap.size, 0, none⟩) lg1).trans dg0.out
          have ix := Hx1.out.after hB
          have iy := Hy.out.after hB
          refine ⟨?_, ?_, ?_, ?_, ?_, ?_, ?_, ?_, ?_, ?_, ?_, ?_, ?_, ?_, trivial⟩
          · exact Reg.doesV_val (ev_move rfl) (by rw [hF]; kernel_rfl) (by rw [hF]; kernel_rfl)
          · exact Reg.doesV_val (by rw [ev_gtC5 (k : Int) 0 rfl (by rw [hF]; kernel_rfl), hk0]) (by rw [hF]; kernel_rfl) (by rw [hF]; kernel_rfl)
          · exact Reg.doesV_val (ev_move rfl) (by rw [hF]; kernel_rfl) (by rw [hF]; kernel_rfl)
          · exact Reg.doesV_val (ev_move rfl) (by rw [hF]; kernel_rfl) (by rw [hF]; kernel_rfl)
          · exact Reg.doesV_val (ev_move rfl) (by rw [hF]; kernel_rfl) (by rw [hF]; kernel_rfl)
          · exact Reg.doesV_val (ev_dec5 k j hkj hjx rfl (by rw [hF]; kernel_rfl)) (by rw [hF]; kernel_rfl) (by rw [hF]; kernel_rfl)
          · exact Reg.doesV_val (ev_idxK (b := b) (off := off) (n := n) (c := c) (k := j) hjn rfl (by rw [hF]; kernel_rfl) (by rw [hF]; kernel_rfl)) (by rw [hF]; kernel_rfl) (by rw [hF]; kernel_rfl)
          · exact Reg.doesV_val (ev_c0 (b := b) (off := off + j * 2) rfl (by rw [hF]; kernel_rfl)) (by rw [hF]; kernel_rfl) (by rw [hF]; kernel_rfl)
          · exact Reg.doesV_val (ev_ldR (A := yA) (n := yn) (c := yc) q0 rfl (by rw [hF]; kernel_rfl)) (by rw [hF]; kernel_rfl) (by rw [hF]; kernel_rfl)
          · exact Reg.doesV_val (ev_c0 (b := wr.heap.size) (off := 0) rfl (by rw [hF]; kernel_rfl)) (by rw [hF]; kernel_rfl) (by rw [hF]; kernel_rfl)
          · exact Reg.doesV_val (ev_ldR (A := xA) (n := xn) (c := xc) jx rfl (by rw [hF]; kernel_rfl)) (by rw [hF]; kernel_rfl) (by rw [hF]; kernel_rfl)
          · exact Reg.doesV_call (compareL_c yA xA yn xn yc xc ys xs w' iy.hd.len ix.hd.len iy.hd.max ix.hd.max iy.hd.sl ix.hd.sl) (ev_call enKeyCompare rfl (by rw [hF]; kernel_rfl)) (by rw [hF]; kernel_rfl) (by rw [hF]; kernel_rfl)
          · exact Reg.doesV_val (by rw [ev_eqC5 (cmpL ys xs) 0 rfl (by rw [hF]; kernel_rfl), hC]) (by rw [hF]; kernel_rfl) (by rw [hF]; kernel_rfl)
          · exact Reg.doesV_val (ev_pick true rfl (by rw [hF]; kernel_rfl)) (by rw [hF]; kernel_rfl) (by rw [hF]; kernel_rfl)
        · intro w8 hB
          simp only [Reg.putAll, Act.put, List.setIfInBounds_toArray, List.set_cons_zero, List.set_cons_succ]
          have Hb8 := Lib.hid (below_via Hb1.out hB)
          have HbW8 := Lib.hid (below_via Hbw.out hB)
          have g0 := (hB.cell (p := ⟨wr.heap.size, 0, none⟩) lg1).trans dg0.out
          have g1 := (hB.cell (p := ⟨wr.heap.size, 1, none⟩) lg1).trans dg1.out
          have lg8 : wr.heap.size < w8.heap.size := Nat.lt_of_lt_of_le lg1 hB.size
          have HOr : Hid (∀ k, (Value.slice A' m c').ownBlock = some k → k < wr.heap.size) := Lib.hid fun k hk => (ho.out.lt k hk).2
          have HO8 := Lib.hid (ho.out.after HbW8.out)
          have HA8 := Lib.hid (hap.out.after HbW8.out)
          have Hx8 := Lib.hid (Hx.out.after HbW8.out)
          clear hB dg0 dg1 Hb1 Hbw ho hap Hx Hx1
          have G0 := Lib.hid g0
          have G1 := Lib.hid g1
          have Hjn : Hid (joinR [(⟨xA, xn, xc, xs⟩ : Hd)] = xs) := Lib.hid (by simp [joinR])
          go_wp2_with fail
          go_region_held3 (fun w' => w'.cell? ⟨wr.heap.size, 0, none⟩ = some (.slice xA xn xc) ∧ w'.cell? ⟨wr.heap.size, 1, none⟩ = some (.int .i64 N)) (first | exact HGC9.out | exact HGCa.out | go_keep)
           (first
             | (go_at_call 31
                have hbj := Lib.hid (((Below.refl w8.heap.size w8).alloc (Nat.le_refl _) (.cells #[.slice xA xn xc] 44)).drew)
                have hsj : Hid (SlG (w8.alloc (.cells #[.slice xA xn xc] 44)).drew (some ⟨w8.heap.size, 0, none⟩) 1 rdH [⟨xA, xn, xc, xs⟩]) := Lib.hid ((SlG.new hOk.len [⟨xA, xn, xc, xs⟩] rfl).after (Below.refl _ _).drew)
                refine (join_c (some ⟨w8.heap.size, 0, none⟩) 1 1 [⟨xA, xn, xc, xs⟩] (w8.alloc (.cells #[.slice xA xn xc] 44)).drew rfl (by unfold maxLen; omega) hsj.out (fun h' hh' => by rw [List.mem_singleton] at hh'; subst hh'; exact Hx8.out.hd.after hbj.out) (by rw [Hjn.out]; exact Hxl.out)).mono ?_
                rintro en w9 ⟨v9, rfl, hb9, hv9⟩
                rw [Hjn.out] at hv9
                obtain ⟨h9, rfl, hIn9, hxs9, hbl9, hnc9⟩ := hv9.hd
                have Hb9 := Lib.hid (below_via Hb8.out (below_via hbj.out hb9))
                have Hb89 := Lib.hid (below_via hbj.out hb9)
                have HGC9 : Hid (w9.cell? ⟨wr.heap.size, 0, none⟩ = some (.slice xA xn xc) ∧ w9.cell? ⟨wr.heap.size, 1, none⟩ = some (.int .i64 N)) := Lib.hid ⟨(Hb89.out.cell lg8).trans G0.out, (Hb89.out.cell lg8).trans G1.out⟩
                have HO9 := Lib.hid (HO8.out.after Hb89.out)
                have Hs89 : Hid (w8.heap.size ≤ w9.heap.size) := Lib.hid Hb89.out.size
                have HOl : Hid (∀ k, (Value.slice A' m c').ownBlock = some k → k < w8.heap.size) := Lib.hid fun k hk => (HO8.out.lt k hk).2
                have HA9 := Lib.hid (HA8.out.after Hb89.out)
                have Hn9 := Lib.hid (NewC.of hIn9 hxs9 hbl9 Hx8.out hnc9)
                obtain ⟨h9A, h9n, h9c, h9xs⟩ := h9
                dsimp only [Hd.v]
                clear hv9 hIn9 hxs9 hbl9 hnc9 hb9 hbj hsj HO8 HA8 Hb8)
             | (refine step_appL cOk (by rfl) (.tmp 41) (.tmp 49) (by rfl) W.heap.size (.slice A' m c') ol [⟨⟨h9A, h9n, h9c, h9xs⟩, N⟩] (by rfl) (HO9.out.after ((Below.refl _ _).alloc (Nat.le_refl _) _)) (some ⟨w9.heap.size, 0, none⟩) 1 1 (by rfl) rfl (SlG.new cOk.len [⟨⟨h9A, h9n, h9c, h9xs⟩, N⟩] rfl) (by rw [hol.out]; simp [maxLen]; omega) (by rw [hol.out]; simp; omega) (by have := Hb9.out.size; simp; omega) ?_
                intro A2 c2 w2 hv hg hloc
                rw [hol.out] at hv hloc ⊢
                have HX := Lib.hid (below_one w9 (.cells #[.slice h9A h9n h9c, .int .i64 N] 46))
                have Hv2 := Lib.hid hv
                have Hb2 := Lib.hid ((below_al Hb9.out (.cells #[.slice h9A h9n h9c, .int .i64 N] 46)).grown hg (by have := Hb9.out.size; simp; omega) (fun k hk => (HO9.out.lt k hk).1))
                have HA2 := Lib.hid (HA9.out.app HX.out hg hloc Hn9.out.ct (fun b' off' hb' => ⟨fun e => by have h1 := (HOl.out b' e); have h2 := (Hn9.out.lt b' off' hb').1; simp at h2; omega, (Hn9.out.lt b' off' hb').2⟩) HO9.out.plain)
                have HGCa : Hid (w2.cell? ⟨wr.heap.size, 0, none⟩ = some (.slice xA xn xc) ∧ w2.cell? ⟨wr.heap.size, 1, none⟩ = some (.int .i64 N)) := Lib.hid (by
                 have hlt9 : wr.heap.size < w9.heap.size := Nat.lt_of_lt_of_le lg8 Hs89.out
                 have hne : some wr.heap.size ≠ (Value.slice A' m c').ownBlock := fun e => by have := HOr.out _ e.symm; omega
                 have hbk : w2.heap[wr.heap.size]? = w9.heap[wr.heap.size]? := (hg.block _ (Nat.lt_of_lt_of_le hlt9 HX.out.size) hne).trans (HX.out.block _ hlt9)
                 refine ⟨?_, ?_⟩
                 · rw [← HGC9.out.1]; simp only [World.cell?, hbk]
                 · rw [← HGC9.out.2]; simp only [World.cell?, hbk])
                clear hv hg hloc HX))
          have Hmi3 : Hid (MI (pl (ls.take (k + 1))) (pl (ol ++ [⟨⟨h9A, h9n, h9c, h9xs⟩, N⟩]))) := Lib.hid (by
           rw [Hpk.out, pl_app, pl_one]
           have e : h9xs = xs := Hn9.out.eq
           simp only [e]
           exact Hmi2.out)
          have Hol3 : Hid ((ol ++ [(⟨⟨h9A, h9n, h9c, h9xs⟩, N⟩ : Ct)]).length = m + 1) := Lib.hid (by rw [List.length_append, hol.out]; rfl)
          clear Hmi2 Hpk HGC9 HGCa HO9 HA9 Hn9 Hb9 Hb89
          go_wp2
          go_roundw
          case rel => exact ⟨k + 1, m + 1, A2, c2, ol ++ [⟨⟨h9A, h9n, h9c, h9xs⟩, N⟩], by omega, by omega, by go_num, rfl, Hol3, Hb2, Hv2, HA2, Hmi3⟩
          case measure => simp [intOf]; omega
      · refine Reg.wp_region_vals mixed (by kernel_rfl) [(15, .int .i64 (k : Nat)), (16, .bool true), (17, .bool true), (18, .slice (some ⟨b, off, none⟩) n c), (19, .int .i64 (k : Nat)), (20, .int .i64 (j : Nat)), (21, .pointer (some ⟨b, off + j * 2, none⟩)), (22, .pointer (some ⟨b, off + j * 2, none⟩)), (23, .slice yA yn yc), (24, .pointer (some ⟨wr.heap.size, 0, none⟩)), (25, .slice xA xn xc), (26, .int .i64 (cmpL ys xs)), (27, .bool true), (28, .bool true)] 53 rfl (by kernel_rfl) ?_ ?_
        · intro F hF w' hB
          have q0 := (hB.cell (p := ⟨b, off + j * 2, none⟩) l1).trans dq.out
          have jx := (hB.cell (p := ⟨wr.heap.size, 0, none⟩) lg1).trans dg0.out
          have ix := Hx1.out.after hB
          have iy := Hy.out.after hB
          refine ⟨?_, ?_, ?_, ?_, ?_, ?_, ?_, ?_, ?_, ?_, ?_, ?_, ?_, ?_, trivial⟩
          · exact Reg.doesV_val (ev_move rfl) (by rw [hF]; kernel_rfl) (by rw [hF]; kernel_rfl)
          · exact Reg.doesV_val (by rw [ev_gtC5 (k : Int) 0 rfl (by rw [hF]; kernel_rfl), hk0]) (by rw [hF]; kernel_rfl) (by rw [hF]; kernel_rfl)
          · exact Reg.doesV_val (ev_move rfl) (by rw [hF]; kernel_rfl) (by rw [hF]; kernel_rfl)
          · exact Reg.doesV_val (ev_move rfl) (by rw [hF]; kernel_rfl) (by rw [hF]; kernel_rfl)
          · exact Reg.doesV_val (ev_move rfl) (by rw [hF]; kernel_rfl) (by rw [hF]; kernel_rfl)
          · exact Reg.doesV_val (ev_dec5 k j hkj hjx rfl (by rw [hF]; kernel_rfl)) (by rw [hF]; kernel_rfl) (by rw [hF]; kernel_rfl)
          · exact Reg.doesV_val (ev_idxK (b := b) (off := off) (n := n) (c := c) (k := j) hjn rfl (by rw [hF]; kernel_rfl) (by rw [hF]; kernel_rfl)) (by rw [hF]; kernel_rfl) (by rw [hF]; kernel_rfl)
          · exact Reg.doesV_val (ev_c0 (b := b) (off := off + j * 2) rfl (by rw [hF]; kernel_rfl)) (by rw [hF]; kernel_rfl) (by rw [hF]; kernel_rfl)
          · exact Reg.doesV_val (ev_ldR (A := yA) (n := yn) (c := yc) q0 rfl (by rw [hF]; kernel_rfl)) (by rw [hF]; kernel_rfl) (by rw [hF]; kernel_rfl)
          · exact Reg.doesV_val (ev_c0 (b := wr.heap.size) (off := 0) rfl (by rw [hF]; kernel_rfl)) (by rw [hF]; kernel_rfl) (by rw [hF]; kernel_rfl)
          · exact Reg.doesV_val (ev_ldR (A := xA) (n := xn) (c := xc) jx rfl (by rw [hF]; kernel_rfl)) (by rw [hF]; kernel_rfl) (by rw [hF]; kernel_rfl)
          · exact Reg.doesV_call (compareL_c yA xA yn xn yc xc ys xs w' iy.hd.len ix.hd.len iy.hd.max ix.hd.max iy.hd.sl ix.hd.sl) (ev_call enKeyCompare rfl (by rw [hF]; kernel_rfl)) (by rw [hF]; kernel_rfl) (by rw [hF]; kernel_rfl)
          · exact Reg.doesV_val (by rw [ev_eqC5 (cmpL ys xs) 0 rfl (by rw [hF]; kernel_rfl), hC]) (by rw [hF]; kernel_rfl) (by rw [hF]; kernel_rfl)
          · exact Reg.doesV_val (ev_pick true rfl (by rw [hF]; kernel_rfl)) (by rw [hF]; kernel_rfl) (by rw [hF]; kernel_rfl)
        · intro w8 hB
          simp only [Reg.putAll, Act.put, List.setIfInBounds_toArray, List.set_cons_zero, List.set_cons_succ]
          have Hb8 := Lib.hid (below_via Hb1.out hB)
          have HbW8 := Lib.hid (below_via Hbw.out hB)
          have g0 := (hB.cell (p := ⟨wr.heap.size, 0, none⟩) lg1).trans dg0.out
          have g1 := (hB.cell (p := ⟨wr.heap.size, 1, none⟩) lg1).trans dg1.out
          have lg8 : wr.heap.size < w8.heap.size := Nat.lt_of_lt_of_le lg1 hB.size
          have HOr : Hid (∀ k, (Value.slice A' m c').ownBlock = some k → k < wr.heap.size) := Lib.hid fun k hk => (ho.out.lt k hk).2
          have HO8 := Lib.hid (ho.out.after HbW8.out)
          have HA8 := Lib.hid (hap.out.after HbW8.out)
          have Hx8 := Lib.hid (Hx.out.after HbW8.out)
          clear hB dg0 dg1 Hb1 Hbw ho hap Hx Hx1
          obtain ⟨M', hM'⟩ : ∃ M', ∃ q, pl ol = M' ++ [(ys, q)] := by
           rcases hmi.out.last with ⟨h1, _⟩ | ⟨p', M', r, n', q, h1, h2⟩
           · rw [hkj, pl_take_succ Hyj.out] at h1
             have := congrArg List.length h1
             simp at this
           · rw [hkj, pl_take_succ Hyj.out] at h1
             have e := congrArg Prod.fst (List.cons.inj (List.append_inj' h1 rfl).2).1
             simp only at e
             subst e
             exact ⟨M', q, h2⟩
          obtain ⟨q, hM'⟩ := hM'
          obtain ⟨ol', h', N0, rfl, hh', hq', hol'⟩ := pl_split hM'
          subst hq'
          obtain ⟨m', hm'⟩ : ∃ m', m = m' + 1 := ⟨ol'.length, by rw [← hol.out, List.length_append]; rfl⟩
          subst hm'
          have Hol' : Hid (ol'.length = m') := Lib.hid (by have := hol.out; rw [List.length_append] at this; simpa using this)
          obtain ⟨gb, rfl, hgb⟩ : ∃ gb, A' = some ⟨gb, 0, none⟩ ∧ ∃ cur, w8.heap[gb]? = some (.cells cur 46 (0, 0)) := by
           rcases HO8.out.2 with ⟨hv, _⟩ | ⟨g', cap, cur, hv, _, hh, _⟩
           · cases hv
           · injection hv with e1
             exact ⟨g', e1, cur, hh⟩
          obtain ⟨cur, hcur⟩ := hgb
          have hfz : ∀ i, w8.frozen? ⟨gb, i, none⟩ = false := fun i => frozen_of_row _ _ _ _ _ hcur
          have fz := hfz (m' * 2 + 1)
          obtain ⟨A9, c9, e9, e9c, e9d, hs9⟩ := HO8.out.sl cOk.len
          injection e9 with e9 e9a e9b
          subst e9
          clear e9a e9b e9c e9d
          obtain ⟨lgb, cb0, cb1⟩ := hs9.cell2 (k := m') (x := ⟨h', N0⟩) (by rw [List.getElem?_append_right (by rw [Hol'.out]; exact Nat.le_refl _), Hol'.out, Nat.sub_self]; rfl)
          simp only [Nat.zero_add] at cb1
          have hN0 := HM9.out (h'.xs, N0) (pl_mem (x := ⟨h', N0⟩) (List.mem_append_right _ (List.mem_singleton.2 rfl)))
          simp only at hN0
          have hN1 := HN.out
          have hw : IntKind.i64.wrap (N0 + N) = N0 + N := by rw [IntKind.wrap_i64]; omega
          have hsub : IntKind.i64.wrap (m' : Int) = m' := by rw [IntKind.wrap_i64]; omega
          have hm0 : (0 : Int) ≤ m' := by omega
          have hm1 : (m' : Int) < m' + 1 := by omega
          have hgW : W.heap.size ≤ gb := (HO8.out.lt gb rfl).1
          have Hb2 := Lib.hid (Hb8.out.setCell (p := ⟨gb, m' * 2 + 1, none⟩) hgW (.int .i64 (N0 + N)))
          have Hv2 := Lib.hid (OwnG.setN HO8.out Hol'.out (N0 + N))
          have HA2 : Hid (ApartC (w8.setCell ⟨gb, m' * 2 + 1, none⟩ (.int .i64 (N0 + N))) (some ⟨gb, 0, none⟩) (ol' ++ [⟨h', N0 + N⟩])) := Lib.hid (fun c hc => by
           rcases List.mem_append.1 hc with hc | hc
           · have h1 := ((HA8.out c (List.mem_append_left _ hc)).2 gb 0 rfl).set (m' * 2 + 1) (.int .i64 (N0 + N))
             exact ⟨h1.1, fun g o e => by cases e; exact h1⟩
           · rw [List.mem_singleton] at hc
             subst hc
             have h1 := ((HA8.out ⟨h', N0⟩ (by simp)).2 gb 0 rfl).set (m' * 2 + 1) (.int .i64 (N0 + N))
             have h2 : OutC (w8.setCell ⟨gb, m' * 2 + 1, none⟩ (.int .i64 (N0 + N))) gb ⟨h', N0 + N⟩ := ⟨⟨h1.1.hd, h1.1.sz, h1.1.n64, by simp only; omega, h1.1.room⟩, h1.2⟩
             exact ⟨h2.1, fun g o e => by cases e; exact h2⟩)
          have Hmi3 : Hid (MI (pl (ls.take (k + 1))) (pl (ol' ++ [⟨h', N0 + N⟩]))) := Lib.hid (by
           rw [Hpk.out, pl_app, pl_one, hh', hol']
           have h1 := hmi.out
           rw [hM'] at h1
           exact h1.same (by simpa using hC))
          have Hol3 : Hid ((ol' ++ [(⟨h', N0 + N⟩ : Ct)]).length = m' + 1) := Lib.hid (by rw [List.length_append, Hol'.out]; rfl)
          clear hs9 cb0 hfz hcur HO8 HA8 Hb8 hmi hM' hh' hol' hN0 hN1 Hpk HM9 HN g0 hkj hjx hprev Hyj dq Hy hC
          have Hb3 := Lib.hid Hb2.out.drew
          have Hv3 := Lib.hid (Hv2.out.after (Below.refl _ _).drew)
          have HA3 := Lib.hid (HA2.out.after (Below.refl _ _).drew)
          clear Hb2 Hv2 HA2
          go_wp2_with fail
          go_region
          clear cb1 fz
          go_wp2
          go_roundw
          case rel => exact ⟨k + 1, m' + 1, some ⟨gb, 0, none⟩, c', ol' ++ [⟨h', N0 + N⟩], by omega, by omega, by go_num, rfl, Hol3, Hb3, Hv3, HA3, Hmi3⟩
          case measure => simp [intOf]; omega
  · obtain rfl : k = n := by omega
    have Ht : Hid (ls.take k = ls) := Lib.hid (List.take_of_length_le (by rw [Hls.out]; exact Nat.le_refl _))
    have HF : Hid (MrgSaid w A ks A' m c' ol wr) := Lib.hid ⟨hol.out, by rw [Hn.out]; exact hmk, ho.out.mono HS2.out.size, hap.out, ⟨pl ls, HS2.out.perm.map _, by have := hmi.out; rw [Ht.out] at this; exact this⟩, fun w0 B h1 h2 h3 => by
     have h4 := HS2.out.below w0 B h1 h2 h3
     exact h4.trans (hb.out.mono (Nat.le_trans h3 h4.size))⟩
    clear hol hb ho hap hmi Ht
    go_wp2
    go_ret
    exact ⟨A', m, c', ol, rfl, HF.out⟩
theorem kOk : ElOk Try.prog 29 46 2 32 (.agg #[.slice none 0 0, .int .i64 0]) rdC where
 under := Try.underlying29
 info := by kernel_rfl
 zs := rfl
 pos := by decide
 len := fun _ => rfl
 one := fun x u hu => by
  simp [rdC] at hu
  rcases hu with rfl | rfl <;> rfl
theorem MrgSaid.bg {w w' : World} {A A' : Option Addr} {ks ol : List Ct} {m c' : Nat} (h : MrgSaid w A ks A' m c' ol w') (hm : ks.length ≤ maxLen) : BgIn w' A' m ol := by
 obtain ⟨A2, c2, e2, _, _, hs⟩ := h.own.sl cOk.len
 injection e2 with e2
 subst e2
 exact ⟨h.len, Nat.le_trans h.le hm, hs, h.apart.each⟩
theorem mayR_len {xs : List Val} (h : mayR xs = true) : xs.length ≤ 40 := by
 unfold mayR at h
 rw [Bool.and_eq_true, decide_eq_true_eq] at h
 exact h.1
def idxF (p : Int → Bool) : List Ct → Nat → Int
 | [], _ => -1
 | x :: l, k => if p x.N then (k : Int) else idxF p l (k + 1)
theorem idxF_drop (p : Int → Bool) (cs : List Ct) (k : Nat) (x : Ct) (h : cs[k]? = some x) : idxF p (cs.drop k) k = if p x.N then (k : Int) else idxF p (cs.drop (k + 1)) (k + 1) := by
 have h1 := List.drop_eq_getElem_cons (List.getElem?_eq_some_iff.1 h).1
 rw [(List.getElem?_eq_some_iff.1 h).2] at h1
 rw [h1, idxF]
theorem idxF_spec (p : Int → Bool) : ∀ (l : List Ct) (k : Nat), (idxF p l k = -1 ∧ ∀ x ∈ l, p x.N = false) ∨ ∃ i x, idxF p l k = ((k + i : Nat) : Int) ∧ l[i]? = some x ∧ p x.N = true ∧ ∀ y ∈ l.take i, p y.N = false
 | [], k => .inl ⟨rfl, nofun⟩
 | x :: l, k => by
   cases h : p x.N
   · rcases idxF_spec p l (k + 1) with ⟨h1, h2⟩ | ⟨i, y, h1, h2, h3, h4⟩
     · refine .inl ⟨by rw [idxF, h, if_neg (by simp), h1], fun y hy => ?_⟩
       rcases List.mem_cons.1 hy with rfl | hy
       · exact h
       · exact h2 y hy
     · refine .inr ⟨i + 1, y, by rw [idxF, h, if_neg (by simp), h1]; congr 1; omega, by simpa using h2, h3, fun z hz => ?_⟩
       rw [List.take_succ_cons] at hz
       rcases List.mem_cons.1 hz with rfl | hz
       · exact h
       · exact h4 z hz
   · exact .inr ⟨0, x, by rw [idxF, h, if_pos rfl]; rfl, rfl, h, nofun⟩
def Asks (g : FuncId) (p : Int → Bool) : Prop := ∀ (A : Option Addr) (n c : Nat) (N : Int) (w : World), Calls Try.prog g #[.agg #[.slice A n c, .int .i64 N]] w fun e w' => e = .returned (.bool (p N)) ∧ Gr w w'
theorem asksBey : Asks 39 beyB := beyond_g
theorem asksZero : Asks 45 (fun N => N == 0) := zero_g
set_option maxHeartbeats 2000000 in
theorem idx_c (g : FuncId) (p : Int → Bool) (hp : Asks g p) (eg : ∀ args w, (callFunc g args).run Try.prog w = .ok (.enter g args) w) (A : Option Addr) (n c : Nat) (cs : List Ct) (w : World) (hB : BgIn w A n cs) :
 Calls Try.prog 58 #[.slice A n c, .func (.func g) #[] #[]] w fun e w' => e = .returned (.int .i64 (idxF p cs 0)) ∧ Below w.heap.size w w' := by
 obtain ⟨R, hR⟩ : ∃ R, idxF p cs 0 = R := ⟨_, rfl⟩
 rw [hR]
 have HR := Lib.hid hR
 have HB := Lib.hid hB
 have Hp := Lib.hid hp
 have hmx : n ≤ 9223372036854775807 := hB.max
 clear hB hR hp
 go_enter Try.func58, Try.ntmps58
 go_wp2_with fail
 go_loopw [8] (fun i wr => ∃ k : Nat, k ≤ n ∧ i = .int .i64 k ∧ Hid (Below w.heap.size w wr) ∧ Hid (idxF p (cs.drop k) k = R)) (fun i _ => n - (intOf i).toNat)
 case atStart => exact ⟨0, Nat.zero_le _, rfl, Lib.hid (Below.refl _ _), HR⟩
 case round =>
  obtain ⟨k, hk, rfl, hb, hinv⟩ := hrel
  clear HR
  by_cases hlt : k < n
  · obtain ⟨b, off, rfl⟩ := HB.out.sl.some2 (k := k) (by rw [HB.out.len]; exact hlt)
    obtain ⟨x, hx⟩ : ∃ x, cs[k]? = some x := ⟨_, List.getElem?_eq_getElem (by rw [HB.out.len]; exact hlt)⟩
    obtain ⟨hblt, c0, c1⟩ := HB.out.sl.cell2 hx
    have d0 := (hb.out.cell (p := ⟨b, off + k * 2, none⟩) hblt).trans c0
    have d1 := (hb.out.cell (p := ⟨b, off + k * 2 + 1, none⟩) hblt).trans c1
    have l0 : b < wr.heap.size := Nat.lt_of_lt_of_le hblt hb.out.size
    have Hst := Lib.hid ((idxF_drop p cs k x hx).symm.trans hinv.out)
    clear hinv c0 c1 hx
    obtain ⟨⟨xA, xn, xc, xs⟩, N⟩ := x
    simp only [] at d0 d1
    have hgo : (k : Int) < n := by omega
    have HC := Lib.hid (Hp.out xA xn xc N wr)
    cases hq : p N
    · have Hst2 : Hid (idxF p (cs.drop (k + 1)) (k + 1) = R) := by
       have := Hst.out
       simp only [hq] at this
       exact Lib.hid this
      clear Hst
      go_wp2_with fail
      refine HC.out.mono ?_
      rintro e w1 ⟨rfl, hg1⟩
      rw [hq]
      have Hb1 := Lib.hid (below_via hb.out hg1.below)
      clear hg1 hb d0 d1 HC
      go_wp2
      go_roundw
      case rel => exact ⟨k + 1, by omega, by go_num, Hb1, Hst2⟩
      case measure => simp [intOf]; omega
    · have Hst2 : Hid ((k : Int) = R) := by
       have := Hst.out
       simp only [hq] at this
       exact Lib.hid this
      clear Hst
      go_wp2_with fail
      refine HC.out.mono ?_
      rintro e w1 ⟨rfl, hg1⟩
      rw [hq]
      have Hb1 := Lib.hid (below_via hb.out hg1.below)
      clear hg1 hb d0 d1 HC
      go_wp2
      go_ret
      exact ⟨congrArg (fun z => Ending.returned (Value.int .i64 z)) Hst2.out, Hb1.out⟩
  · obtain rfl : k = n := by omega
    have Hst' : Hid (-1 = R) := by
     have := hinv.out
     rw [show cs.drop k = [] from List.drop_eq_nil_of_le (by rw [HB.out.len]; exact Nat.le_refl _)] at this
     exact Lib.hid this
    clear hinv
    go_wp2
    go_ret
    exact ⟨congrArg (fun z => Ending.returned (Value.int .i64 z)) Hst'.out, hb.out⟩
theorem idx_any (p : Int → Bool) (cs : List Ct) : decide (0 ≤ idxF p cs 0) = cs.any fun x => p x.N := by
 rcases idxF_spec p cs 0 with ⟨h1, h2⟩ | ⟨i, x, h1, h2, h3, _⟩
 · rw [h1]
   symm
   rw [show decide ((0 : Int) ≤ -1) = false from rfl, List.any_eq_false]
   intro x hx
   rw [h2 x hx]
   decide
 · rw [h1, decide_eq_true (by omega)]
   symm
   rw [List.any_eq_true]
   exact ⟨x, List.mem_of_getElem? h2, h3⟩
theorem contains_c (A : Option Addr) (n c : Nat) (cs : List Ct) (w : World) (hB : BgIn w A n cs) :
 Calls Try.prog 43 #[.slice A n c, .func (.func 39) #[] #[]] w fun e w' => e = .returned (.bool (cs.any fun x => beyB x.N)) ∧ Below w.heap.size w w' := by
 have HC := Lib.hid (idx_c 39 beyB asksBey (fun _ _ => by kernel_rfl) A n c cs w hB)
 rw [← idx_any]
 obtain ⟨R, hR⟩ : ∃ R, idxF beyB cs 0 = R := ⟨_, rfl⟩
 rw [hR] at HC ⊢
 clear hB hR
 go_enter Try.func43, Try.ntmps43
 go_wp2_with fail
 refine HC.out.mono ?_
 rintro e w1 ⟨rfl, hb1⟩
 go_wp2
 go_ret
 exact ⟨rfl, hb1⟩
def fl (l : List Ct) : List Ct := l.filter fun x => !(x.N == 0)
theorem fl_pl (l : List Ct) : pl (fl l) = (pl l).filter fun x => !(x.2 == 0) := by
 unfold fl pl
 rw [List.filter_map]
 rfl
theorem fl_take {l : List Ct} {j : Nat} {x : Ct} (h : l[j]? = some x) : fl (l.take (j + 1)) = fl (l.take j) ++ if x.N == 0 then [] else [x] := by
 unfold fl
 rw [List.take_add_one, h, List.filter_append]
 congr 1
 cases hz : x.N == 0 <;> simp [hz]
structure DelSt (w : World) (g n i j : Nat) (ol : List Ct) : Prop where
 lt : g < w.heap.size
 thaw : ∀ t, w.frozen? ⟨g, t, none⟩ = false
 all : ∀ t, t < n * 2 → ∃ u, w.cell? ⟨g, t, none⟩ = some u
 len : (fl (ol.take j)).length = i
 lo : ∀ t x, (fl (ol.take j))[t]? = some x → w.cell? ⟨g, t * 2, none⟩ = some (.slice x.h.A x.h.n x.h.c) ∧ w.cell? ⟨g, t * 2 + 1, none⟩ = some (.int .i64 x.N)
 hi : ∀ t x, j ≤ t → ol[t]? = some x → w.cell? ⟨g, t * 2, none⟩ = some (.slice x.h.A x.h.n x.h.c) ∧ w.cell? ⟨g, t * 2 + 1, none⟩ = some (.int .i64 x.N)
 out : ∀ c ∈ ol, OutC w g c
 ij : i < j
theorem DelSt.after {w w' : World} {g n i j : Nat} {ol : List Ct} (h : DelSt w g n i j ol) (hb : Below w.heap.size w w') : DelSt w' g n i j ol :=
 ⟨Nat.lt_of_lt_of_le h.lt hb.size, fun t => by rw [hb.frozen (p := ⟨g, t, none⟩) h.lt]; exact h.thaw t, fun t ht => by rw [hb.cell (p := ⟨g, t, none⟩) h.lt]; exact h.all t ht, h.len,
   fun t x hx => by rw [hb.cell (p := ⟨g, t * 2, none⟩) h.lt, hb.cell (p := ⟨g, t * 2 + 1, none⟩) h.lt]; exact h.lo t x hx,
   fun t x ht hx => by rw [hb.cell (p := ⟨g, t * 2, none⟩) h.lt, hb.cell (p := ⟨g, t * 2 + 1, none⟩) h.lt]; exact h.hi t x ht hx, fun c hc => (h.out c hc).after hb, h.ij⟩
theorem DelSt.skip {w : World} {g n i j : Nat} {ol : List Ct} {x : Ct} (h : DelSt w g n i j ol) (hx : ol[j]? = some x) (hz : (x.N == 0) = true) : DelSt w g n i (j + 1) ol := by
 have e : fl (ol.take (j + 1)) = fl (ol.take j) := by rw [fl_take hx, hz, if_pos rfl, List.append_nil]
 exact ⟨h.lt, h.thaw, h.all, by rw [e]; exact h.len, by rw [e]; exact h.lo, fun t y ht => h.hi t y (by omega), h.out, by have := h.ij; omega⟩
theorem DelSt.keep {w : World} {g n i j : Nat} {ol : List Ct} {x : Ct} (h : DelSt w g n i j ol) (hl : ol.length = n) (hx : ol[j]? = some x) (hz : (x.N == 0) = false) : DelSt ((w.setCell ⟨g, i * 2, none⟩ x.h.v).setCell ⟨g, i * 2 + 1, none⟩ (.int .i64 x.N)) g n (i + 1) (j + 1) ol := by
 have e : fl (ol.take (j + 1)) = fl (ol.take j) ++ [x] := by rw [fl_take hx, hz, if_neg (by decide)]
 have hij := h.ij
 have hjn : j < n := by rw [← hl]; exact (List.getElem?_eq_some_iff.1 hx).1
 obtain ⟨u0, h0⟩ := h.all (i * 2) (by omega)
 obtain ⟨u1, h1⟩ := h.all (i * 2 + 1) (by omega)
 have oth : ∀ (w : World) (p j : Nat) (v : Value), j ≠ p → (w.setCell ⟨g, p, none⟩ v).cell? ⟨g, j, none⟩ = w.cell? ⟨g, j, none⟩ := fun w p j v hj => World.cell?_setCell_other _ _ _ _ (by intro e; simp only [Addr.mk.injEq] at e; exact hj e.2.1.symm)
 have k1 : (w.setCell ⟨g, i * 2, none⟩ x.h.v).cell? ⟨g, i * 2 + 1, none⟩ = some u1 := (oth _ _ _ _ (by omega)).trans h1
 have c1 := World.cell?_setCell_same _ ⟨g, i * 2 + 1, none⟩ (.int .i64 x.N) k1
 have c0 := (oth (w.setCell ⟨g, i * 2, none⟩ x.h.v) (i * 2 + 1) (i * 2) (.int .i64 x.N) (by omega)).trans (World.cell?_setCell_same _ ⟨g, i * 2, none⟩ x.h.v h0)
 have other : ∀ j, j ≠ i * 2 → j ≠ i * 2 + 1 → ((w.setCell ⟨g, i * 2, none⟩ x.h.v).setCell ⟨g, i * 2 + 1, none⟩ (.int .i64 x.N)).cell? ⟨g, j, none⟩ = w.cell? ⟨g, j, none⟩ := fun j e0 e1 => (oth _ _ _ _ e1).trans (oth _ _ _ _ e0)
 refine ⟨by simpa using h.lt, fun t => by rw [World.frozen?_setCell, World.frozen?_setCell]; exact h.thaw t, fun t ht => ?_, by rw [e, List.length_append, h.len]; rfl, fun t y hy => ?_, fun t y ht hy => ?_, fun c hc => ((h.out c hc).set _ _).set _ _, by omega⟩
 · by_cases e0 : t = i * 2
   · subst e0; exact ⟨_, c0⟩
   by_cases e1 : t = i * 2 + 1
   · subst e1; exact ⟨_, c1⟩
   rw [other t e0 e1]
   exact h.all t ht
 · rw [e] at hy
   by_cases ht : t < i
   · rw [List.getElem?_append_left (by rw [h.len]; exact ht)] at hy
     rw [other _ (by omega) (by omega), other _ (by omega) (by omega)]
     exact h.lo t y hy
   · have ht' : t = i := by
      have := (List.getElem?_eq_some_iff.1 hy).1
      rw [List.length_append, h.len] at this
      simp at this
      omega
     subst ht'
     rw [List.getElem?_append_right (by rw [h.len]; exact Nat.le_refl _), h.len, Nat.sub_self] at hy
     simp at hy
     subst hy
     exact ⟨c0, c1⟩
 · rw [other _ (by omega) (by omega), other _ (by omega) (by omega)]
   exact h.hi t y (by omega) hy
theorem setCs_block (g : Nat) : ∀ (vs : List Value) (o : Nat) (w : World) (b : Nat), b ≠ g → (w.setCells g o vs).heap[b]? = w.heap[b]?
 | [], _, _, _, _ => rfl
 | v :: r, o, w, b, hb => by
   rw [World.setCells]
   exact (setCs_block g r _ _ b hb).trans (Below.heap_setCell _ _ _ _ hb)
theorem setCs_size (g : Nat) : ∀ (vs : List Value) (o : Nat) (w : World), (w.setCells g o vs).heap.size = w.heap.size
 | [], _, _ => rfl
 | v :: r, o, w => by
   rw [World.setCells, setCs_size g r]
   simp
theorem setCs_below {B g : Nat} (hg : B ≤ g) {w0 : World} : ∀ (vs : List Value) (o : Nat) (w : World), Below B w0 w → Below B w0 (w.setCells g o vs)
 | [], _, _, h => h
 | v :: r, o, w, h => by
   rw [World.setCells]
   exact setCs_below hg r _ _ (h.setCell hg v)
theorem clear2_run (w : World) (ty : TypeId) (b o n c : Nat) (hn : 0 < n) (hc : ∀ j, j < n * 2 → (w.cell? ⟨b, o + j, none⟩).isSome = true) (hf : ∀ j, w.frozen? ⟨b, j, none⟩ = false) :
 ∃ vs : List Value, vs.length = n * 2 ∧ (Builtin.clear_ #[30] ty #[.slice (some ⟨b, o, none⟩) n c]).run Try.prog w = .ok (.tuple #[]) (w.setCells b o vs) := by
 have hv : ∀ w, (zeroValue 46).run Try.prog w = .ok (.agg #[.slice none 0 0, .int .i64 0]) w := Try.zeroValue46
 have hlen : (Builtin.zeroCells (Value.agg #[.slice none 0 0, .int .i64 0]).cells n).toList.length = n * 2 := by
  rw [Array.length_toList, size_zeroCells]
  rfl
 have hone : ∀ v ∈ (Builtin.zeroCells (Value.agg #[.slice none 0 0, .int .i64 0]).cells n).toList, v.oneCell' = true := by
  intro v hv'
  rw [Array.mem_toList_iff] at hv'
  unfold Builtin.zeroCells at hv'
  rw [Array.mem_map] at hv'
  obtain ⟨i, _, rfl⟩ := hv'
  have hs : (Value.agg #[.slice none 0 0, .int .i64 0]).cells = #[.slice none 0 0, .int .i64 0] := by kernel_rfl
  rw [hs]
  have h2 : i % (#[Value.slice none 0 0, .int .i64 0] : Array Value).size = 0 ∨ i % (#[Value.slice none 0 0, .int .i64 0] : Array Value).size = 1 := by
   show i % 2 = 0 ∨ i % 2 = 1
   omega
  rcases h2 with e | e <;> rw [e] <;> rfl
 refine ⟨_, hlen, ?_⟩
 have hst := run_storeCells_cells (P := Try.prog) b o _ 0 w (fun j hj => by rw [hlen] at hj; simpa using hc j hj) (fun j _ => hf _) hone
 simp only [Nat.add_zero] at hst
 obtain ⟨m, rfl⟩ : ∃ m, n = m + 1 := ⟨n - 1, by omega⟩
 simp [Builtin.clear_, run_underlying Try.underlying30, hv, hst]
structure DelSaid (w : World) (B : Nat) (ol : List Ct) (A' : Option Addr) (m : Nat) (w' : World) : Prop where
 bg : ∃ ol', BgIn w' A' m ol' ∧ pl ol' = (pl ol).filter fun x => !(x.2 == 0)
 below : ∀ w0 B0, Below B0 w0 w → B0 ≤ B → B0 ≤ w0.heap.size → Below B0 w0 w'
set_option maxHeartbeats 4000000 in
theorem del_c (A : Option Addr) (n c B : Nat) (ol : List Ct) (w : World) (ho : OwnG w B 46 2 rdC (.slice A n c) ol) (hl : ol.length = n) (hn : n ≤ 100000) (hap : ApartC w A ol) (hBw : B ≤ w.heap.size) :
 Calls Try.prog 44 #[.slice A n c, .func (.func 45) #[] #[]] w fun e w' => ∃ A' m c', e = .returned (.slice A' m c') ∧ DelSaid w B ol A' m w' := by
 have hBg : BgIn w A n ol := by
  obtain ⟨A2, c2, e2, _, _, hs⟩ := ho.sl cOk.len
  injection e2 with e2
  subst e2
  exact ⟨hl, by unfold maxLen; omega, hs, hap.each⟩
 have HI := Lib.hid (idx_c 45 (fun N => N == 0) asksZero (fun _ _ => by kernel_rfl) A n c ol w hBg)
 rcases idxF_spec (fun N => N == 0) ol 0 with ⟨h1, h2⟩ | ⟨i0, x0, h1, h2, h3, h4⟩
 · rw [h1] at HI
   have HF : Hid (∀ w', Below w.heap.size w w' → DelSaid w B ol A n w') := Lib.hid fun w' hb => ⟨⟨ol, hBg.after hb, by
    symm
    rw [List.filter_eq_self]
    intro y hy
    obtain ⟨z, hz, rfl⟩ := List.mem_map.1 hy
    have h5 : (z.N == 0) = false := h2 z hz
    simp only [h5]
    rfl⟩, fun w0 B0 hb0 hB0 _ => hb0.trans (hb.mono (Nat.le_trans hB0 hBw))⟩
   clear hBg h1 h2 ho hap
   go_enter Try.func44, Try.ntmps44
   go_wp2_with fail
   refine HI.out.mono ?_
   rintro e w1 ⟨rfl, hb1⟩
   have HF1 := Lib.hid (HF.out w1 hb1)
   clear hb1 HF HI
   go_wp2
   go_ret
   exact ⟨A, n, c, rfl, HF1.out⟩
 · rw [h1, Nat.zero_add] at HI
   have hi0 : i0 < n := by rw [← hl]; exact (List.getElem?_eq_some_iff.1 h2).1
   obtain ⟨g, rfl, cur, hcur, hnc, hcs⟩ : ∃ g, A = some ⟨g, 0, none⟩ ∧ ∃ cur, w.heap[g]? = some (.cells cur 46 (0, 0)) ∧ n ≤ c ∧ cur.size = c * 2 := by
    rcases ho.2 with ⟨hv, hz⟩ | ⟨g', cap, cur, hv, _, hh, hle, _, hsz, _⟩
    · rw [hl] at hz; omega
    · injection hv with e1 e2 e3
      subst e3
      exact ⟨g', e1, cur, hh, by rw [hl] at hle; exact hle, hsz⟩
   have hgB : B ≤ g := (ho.lt g rfl).1
   have hflt : fl (ol.take i0) = ol.take i0 := by
    unfold fl
    rw [List.filter_eq_self]
    intro y hy
    have h5 : (y.N == 0) = false := h4 y hy
    rw [h5]
    rfl
   have HS : Hid (DelSt w g n i0 (i0 + 1) ol) := Lib.hid (by
    have e : fl (ol.take (i0 + 1)) = ol.take i0 := by
     rw [fl_take h2, show (x0.N == 0) = true from h3, if_pos rfl, List.append_nil, hflt]
    have hcell : ∀ t x, ol[t]? = some x → w.cell? ⟨g, t * 2, none⟩ = some (.slice x.h.A x.h.n x.h.c) ∧ w.cell? ⟨g, t * 2 + 1, none⟩ = some (.int .i64 x.N) := fun t x hx => by
     have := (hBg.sl.cell2 hx).2
     rwa [Nat.zero_add] at this
    refine ⟨(ho.lt g rfl).2, fun t => frozen_of_row _ _ _ _ _ hcur, fun t ht => ⟨cur[t]'(by rw [hcs]; omega), ?_⟩, by rw [e, List.length_take, hl]; omega, fun t x hx => ?_, fun t x _ hx => hcell t x hx, fun c hc => (hap c hc).2 g 0 rfl, by omega⟩
    · simp only [World.cell?, hcur, Option.isSome_none, Bool.false_eq_true, if_false]
      exact Array.getElem?_eq_getElem _
    · rw [e] at hx
      refine hcell t x ?_
      rw [List.getElem?_take] at hx
      split at hx
      · exact hx
      · cases hx)
   have Hl := Lib.hid hl
   clear hBg h1 h2 h3 h4 ho hap hflt hcur hcs hl
   have hne1 : ((i0 : Int) == -1) = false := beq_eq_false_iff_ne.2 (by omega)
   go_enter Try.func44, Try.ntmps44
   go_wp2_with fail
   refine HI.out.mono ?_
   rintro e w1 ⟨rfl, hb1⟩
   have HS1 := Lib.hid (HS.out.after hb1)
   have Hb1 : Hid (Below B w w1) := Lib.hid (hb1.mono hBw)
   clear hb1 HS HI
   go_wp2_with fail
   go_loopw [5, 6] (fun a d wr => ∃ i j : Nat, j ≤ n ∧ i < j ∧ a = .int .i64 i ∧ d = .int .i64 j ∧ Hid (Below B w wr) ∧ Hid (DelSt wr g n i j ol)) (fun _ d _ => n - (intOf d).toNat)
   case atStart => exact ⟨i0, i0 + 1, by omega, by omega, rfl, by go_num, Hb1, HS1⟩
   case round =>
    obtain ⟨i, j, hj, hij, rfl, rfl, hb, hS⟩ := hrel
    clear HS1 Hb1
    by_cases hlt : j < n
    · obtain ⟨x, hx⟩ : ∃ x, ol[j]? = some x := ⟨_, List.getElem?_eq_getElem (by rw [Hl.out]; exact hlt)⟩
      obtain ⟨d0, d1⟩ := hS.out.hi j x (Nat.le_refl _) hx
      have Hx := Lib.hid hx
      have l0 := hS.out.lt
      clear hx
      obtain ⟨⟨xA, xn, xc, xs⟩, N⟩ := x
      simp only [] at d0 d1
      have hgo : (j : Int) < n := by omega
      have hBr : B ≤ wr.heap.size := Nat.le_trans hBw hb.out.size
      cases hz : N == 0
      · go_wp2_with fail
        refine (zero_g xA xn xc N _).mono ?_
        rintro e w2 ⟨rfl, hg2⟩
        rw [hz]
        have Hb2 := Lib.hid (below_via (below_one wr (.cells #[.slice xA xn xc, .int .i64 N] 46)) hg2.below)
        have HS2 := Lib.hid (hS.out.after Hb2.out)
        have HK := Lib.hid (HS2.out.keep Hl.out Hx.out hz)
        obtain ⟨u0, f0⟩ := HS2.out.all (i * 2) (by omega)
        obtain ⟨u1, f1⟩ := HS2.out.all (i * 2 + 1) (by omega)
        have z0 := HS2.out.thaw (i * 2)
        have z1 := HS2.out.thaw (i * 2 + 1)
        have e0 : w2.cell? ⟨wr.heap.size, 0, none⟩ = some (.slice xA xn xc) := (hg2.below.cell (p := ⟨wr.heap.size, 0, none⟩) (by simp)).trans (by simp)
        have e1 : w2.cell? ⟨wr.heap.size, 1, none⟩ = some (.int .i64 N) := (hg2.below.cell (p := ⟨wr.heap.size, 1, none⟩) (by simp)).trans (by simp)
        have HF : Hid (Below B w ((w2.setCell ⟨g, i * 2, none⟩ (.slice xA xn xc)).setCell ⟨g, i * 2 + 1, none⟩ (.int .i64 N))) := Lib.hid (((hb.out.trans (Hb2.out.mono hBr)).setCell hgB _).setCell hgB _)
        clear hg2 Hb2 HS2 hb hS d0 d1 Hx hBr
        have hii : (i : Int) < n := by omega
        have hi0' : (0 : Int) ≤ i := by omega
        go_wp2_with fail
        go_roundw
        case rel => exact ⟨i + 1, j + 1, by omega, by omega, by go_num, by go_num, HF, HK⟩
        case measure => simp [intOf]; omega
      · go_wp2_with fail
        refine (zero_g xA xn xc N _).mono ?_
        rintro e w2 ⟨rfl, hg2⟩
        rw [hz]
        have Hb2 := Lib.hid (below_via (below_one wr (.cells #[.slice xA xn xc, .int .i64 N] 46)) hg2.below)
        have HK := Lib.hid ((hS.out.after Hb2.out).skip Hx.out hz)
        have HF : Hid (Below B w w2) := Lib.hid (hb.out.trans (Hb2.out.mono hBr))
        clear hg2 Hb2 hb hS d0 d1 Hx hBr
        go_wp2_with fail
        go_roundw
        case rel => exact ⟨i, j + 1, by omega, by omega, rfl, by go_num, HF, HK⟩
        case measure => simp [intOf]; omega
    · obtain rfl : j = n := by omega
      have hcl : ∃ vs : List Value, vs.length = (j - i) * 2 ∧ ∀ ty, (Builtin.clear_ #[30] ty #[.slice (some ⟨g, i * 2, none⟩) (j - i) (c - i)]).run Try.prog wr = .ok (.tuple #[]) (wr.setCells g (i * 2) vs) := by
       obtain ⟨vs, hv1, hv2⟩ := clear2_run wr 0 g (i * 2) (j - i) (c - i) (by omega) (fun t ht => by obtain ⟨u, hu⟩ := hS.out.all (i * 2 + t) (by omega); rw [hu]; rfl) hS.out.thaw
       exact ⟨vs, hv1, fun _ => hv2⟩
      obtain ⟨vs, hvs, hcl⟩ := hcl
      have ht : ol.take j = ol := List.take_of_length_le (by rw [Hl.out]; exact Nat.le_refl _)
      have HF : Hid (DelSaid w B ol (some ⟨g, 0, none⟩) i (wr.setCells g (i * 2) vs)) := Lib.hid (by
       have hS' := hS.out
       have hlen := hS'.len
       have hlo := hS'.lo
       rw [ht] at hlen hlo
       have hblk : ∀ b, b ≠ g → b < wr.heap.size → (wr.setCells g (i * 2) vs).heap[b]? = wr.heap[b]? := fun b hb _ => setCs_block g vs _ _ b hb
       have hsz : (wr.setCells g (i * 2) vs).heap.size = wr.heap.size := setCs_size g vs _ _
       refine ⟨⟨fl ol, ⟨hlen, by unfold maxLen; omega, .inr ⟨g, 0, rfl, by rw [hsz]; exact hS'.lt, fun t x hx q u hu => ?_⟩, fun c hc => ((hS'.out c (List.mem_filter.1 hc).1).same (by rw [hsz]; exact Nat.le_refl _) hblk).1⟩, fl_pl ol⟩, fun w0 B0 h0 h1 _ => ?_⟩
       · have hti : t < i := by rw [← hlen]; exact (List.getElem?_eq_some_iff.1 hx).1
         have hq : q < 2 := (List.getElem?_eq_some_iff.1 hu).1
         rw [World.cell?_setCells_out g vs (i * 2) wr _ (fun _ _ => .inl (by simp only; omega))]
         have h3 := hlo t x hx
         match q, hu with
         | 0, hu => simp [rdC] at hu; subst hu; rw [Nat.zero_add]; exact h3.1
         | 1, hu => simp [rdC] at hu; subst hu; rw [Nat.zero_add]; exact h3.2
       · exact setCs_below (Nat.le_trans h1 hgB) vs _ _ (h0.trans (hb.out.mono h1)))
      clear hS hb hvs ht
      have hci : ¬ c = i := by omega
      have hii : (i : Int) ≤ j := by omega
      have hic : (i : Int) ≤ c := by omega
      have hi0' : (0 : Int) ≤ i := by omega
      have hjc : (j : Int) ≤ c := by omega
      go_wp2
      go_ret
      exact ⟨_, _, _, rfl, HF.out⟩
theorem append_types (w : World) (ty : TypeId) (b : Option Addr) (n1 c1 : Nat) (A : Option Addr) (n c : Nat) : (Builtin.append_ #[29, 30] ty #[.slice b n1 c1, .slice A n c]).run Try.prog w = (Builtin.append_ #[29, 29] ty #[.slice b n1 c1, .slice A n c]).run Try.prog w := by
 simp [Builtin.append_, run_underlying Try.underlying29, run_underlying Try.underlying30]
theorem wpList_appU {ops : Array Oper} {rest : List Oper} {o : Oper} {a : Act} {Q : Exit → Act → World → Prop} {w : World} (hgd : o.guard = none) (s x : Operand) (ho : o.op = .call { callee := .builtin .append, args := #[s, x], argTypes := #[29, 30] })
 (B : Nat) (v : Value) (xs ys : List Ct) (A : Option Addr) (n c : Nat) (hs : a.eval s = v) (hb : OwnG w B 46 2 rdC v xs) (hx : a.eval x = .slice A n c) (hn : ys.length = n) (hsl : SlG w A 2 rdC ys)
 (hmax : xs.length + ys.length ≤ maxLen) (hbytes : (xs.length + ys.length) * 32 ≤ 140737488355328) (hB : B ≤ w.heap.size)
 (h : ∀ v' w', OwnG w' B 46 2 rdC v' (xs ++ ys) → w.grownBy w' v.ownBlock → wpList Try.prog ops Q rest (a.put o.dst v') w') : wpList Try.prog ops Q (o :: rest) a w := by
 obtain ⟨i0, hi, hz0, hz1, hz2⟩ := kOk.parts
 subst hn
 obtain ⟨b1, c1, hv1⟩ := hb.isSlice
 have some_case : ∀ (ad : Addr), A = some ad → (∀ j u, (ys.flatMap rdC)[j]? = some u → w.cell? (ad.add j) = some u) → wpList Try.prog ops Q (o :: rest) a w := by
  intro ad hA hcells
  subst hA
  refine wpList_plain hgd fun K hK => ?_
  obtain ⟨v', w', hr, h2, h3, h4, h5⟩ := run_append_own_at (P := Try.prog) w B 29 o.type 46 i0 _ 2 32 kOk.under hi hz0 hz1 hz2 kOk.zs kOk.pos v xs.length (xs.flatMap rdC) hb ad ys.length c (ys.flatMap rdC) (flat_len kOk.len ys) hcells (fun u hu => by obtain ⟨q, _, hq⟩ := List.mem_flatMap.1 hu; exact kOk.one q u hq) hmax hbytes hB
  rw [hv1, ← append_types, ← hv1] at hr
  unfold Oper.wp execOp
  simp only [ho, resolve, invoke, builtin, Sem.run_bind, Sem.run_pure, Result.andThen_ok, List.map_toArray, List.map_cons, List.map_nil, hs, hx, hr]
  refine hK _ _ (h v' w' ?_ h3)
  unfold OwnG
  rw [List.flatMap_append, List.length_append]
  exact h2
 rcases hsl with rfl | ⟨b, off, hA, hlt, hc⟩
 · cases A with
   | some ad => exact some_case ad rfl (fun j u hj => by simp at hj)
   | none =>
     refine wpList_plain hgd fun K hK => ?_
     have hr := app_none kOk w v B c o.type xs hb
     rw [hv1, ← append_types, ← hv1] at hr
     unfold Oper.wp execOp
     have hx' : a.eval x = .slice none 0 c := hx
     simp only [ho, resolve, invoke, builtin, Sem.run_bind, Sem.run_pure, Result.andThen_ok, List.map_toArray, List.map_cons, List.map_nil, hs, hx', hr]
     exact hK _ _ (h v w (by rw [List.append_nil]; exact hb) (World.grownBy.refl w _))
 · refine some_case ⟨b, off, none⟩ hA fun j u hj => ?_
   rw [Go.WideShapes.add_plain]
   exact SlG.flat kOk.len kOk.pos hc j u hj
def allC (bs : List Bh) : List Ct := bs.flatMap (·.cs)
theorem allC_take {bs : List Bh} {k : Nat} {b : Bh} (h : bs[k]? = some b) : allC (bs.take (k + 1)) = allC (bs.take k) ++ b.cs := by
 unfold allC
 rw [List.take_add_one, h, List.flatMap_append]
 simp
theorem allC_len {bs : List Bh} (h : ∀ b ∈ bs, b.cs.length = b.n) : (allC bs).length = totB bs := by
 induction bs with
 | nil => rfl
 | cons b bs ih =>
   have h1 := ih fun c hc => h c (List.mem_cons_of_mem _ hc)
   unfold allC at h1 ⊢
   rw [List.flatMap_cons, List.length_append, h1, h b (by simp)]
   rfl
theorem allC_pl (bs : List Bh) : pl (allC bs) = (bs.map fun b => pl b.cs).flatten := by
 unfold allC pl
 induction bs with
 | nil => rfl
 | cons b bs ih => rw [List.flatMap_cons, List.map_append, ih, List.map_cons, List.flatten_cons]
theorem OwnG.wrC {w : World} {B n c : Nat} {A : Option Addr} {ol : List Ct} (h : OwnG w B 46 2 rdC (.slice A n c) ol) (hl : ol.length = n) : n = 0 ∨ ∃ g off, A = some ⟨g, off, none⟩ ∧ Wr w g off ol ∧ B ≤ g := by
 rcases h.2 with ⟨hv, hz⟩ | ⟨g, cap, cur, hv, hB, hh, _⟩
 · exact .inl (by rw [← hl, hz])
 · injection hv with e1
   subst e1
   refine .inr ⟨g, 0, rfl, ⟨(h.lt g rfl).2, fun i x hx j u hu => ?_⟩, hB⟩
   obtain ⟨A2, c2, e2, _, _, hs⟩ := h.sl cOk.len
   injection e2 with e2
   subst e2
   have hc2 := hs.cell2 hx
   refine ⟨?_, frozen_of_row _ _ _ _ _ hh⟩
   match j, hu with
   | 0, hu => simp [rdC] at hu; subst hu; exact hc2.2.1
   | 1, hu => simp [rdC] at hu; subst hu; exact hc2.2.2
theorem mayBag_rows {b : Bg} (h : mayBag b = true) : ∀ x ∈ b, x.1.length ≤ 100000 := fun x hx => by
 have := mayR_len (okC_parts (may_okC h x hx)).2.2.2
 omega
theorem bey_may {l : List Bg} {p M : Bg} (hl : ∀ b ∈ l, mayBag b = true) (h : MI p M) (hp : p.Perm l.flatten) : mayBag (plusL l) = !(M.any fun x => beyB x.2) := by
 have hf := h.plus hp
 cases hb : M.any fun x => beyB x.2
 · rw [Bool.not_false, ← hf]
   rw [List.any_eq_false] at hb
   refine may_of (by rw [hf]; exact asc_plus l) fun x hx => ?_
   obtain ⟨h1, h2⟩ := List.mem_filter.1 hx
   have h3 : x ∈ plusL l := by rw [← hf]; exact hx
   have h4 := hb x h1
   rw [bey_fits] at h4
   have h5 : (decide (-1000000000 ≤ x.2) && decide (x.2 ≤ 1000000000)) = true := by
    cases hq : (decide (-1000000000 ≤ x.2) && decide (x.2 ≤ 1000000000))
    · rw [hq] at h4; simp at h4
    · rfl
   rw [Bool.and_eq_true, decide_eq_true_eq, decide_eq_true_eq] at h5
   exact okC_of (nz_plus l x h3) h5.1 h5.2 (key_plus (fun r => mayR r = true) l (fun b hb y hy => (okC_parts (may_okC (hl b hb) y hy)).2.2.2) x h3)
 · rw [Bool.not_true]
   rw [List.any_eq_true] at hb
   obtain ⟨x, hx, hbx⟩ := hb
   cases hm : mayBag (plusL l)
   · rfl
   · exfalso
     rw [bey_fits] at hbx
     have hz : (x.2 == 0) = false := by
      cases hq : x.2 == 0
      · rfl
      · rw [eq_of_beq hq] at hbx
        exact absurd hbx (by decide)
     have hin : x ∈ plusL l := by
      rw [← hf]
      exact List.mem_filter.2 ⟨hx, by rw [hz]; rfl⟩
     have h5 := okC_parts (may_okC hm x hin)
     rw [decide_eq_true h5.2.1, decide_eq_true h5.2.2.1] at hbx
     exact absurd hbx (by decide)
set_option maxHeartbeats 4000000 in
theorem plus_c (A : Option Addr) (n c : Nat) (bs : List Bh) (w : World) (hl : bs.length = n) (hn : n ≤ 10000) (hsl : SlG w A 1 rdBh bs) (hin : ∀ b ∈ bs, Bh.In w b) (ht : totB bs ≤ 100000) :
 Calls Try.prog 27 #[.slice A n c] w fun e w' => ∃ A' n' c' cs', e = .returned (.slice A' n' c') ∧ Below w.heap.size w w' ∧ BgIn w' A' n' cs' ∧ pl cs' = plusR (bs.map fun b => pl b.cs) := by
 have Hl := Lib.hid hl
 have Hs := Lib.hid hsl
 have Hi := Lib.hid hin
 have Ht := Lib.hid ht
 clear hl hsl hin ht
 go_enter Try.func27, Try.ntmps27
 go_wp2_with fail
 go_loopw [3, 9] (fun v i wr => ∃ k : Nat, k ≤ n ∧ i = .int .i64 k ∧ Hid (Below w.heap.size w wr) ∧ Hid (OwnG wr w.heap.size 46 2 rdC v (allC (bs.take k))) ∧ Hid (∀ b ∈ bs.take k, mayBag (pl b.cs) = true)) (fun _ i _ => n - (intOf i).toNat)
 case atStart => exact ⟨0, Nat.zero_le _, rfl, Lib.hid (Below.refl _ _), Lib.hid (OwnG.nil _ _ _), Lib.hid nofun⟩
 case round =>
  obtain ⟨k, hk, rfl, hb, ho, hall⟩ := hrel
  by_cases hlt : k < n
  · obtain ⟨b, off, x, rfl, hblt, hx, c0⟩ := Hs.out.at1 (by rw [Hl.out]; exact hlt)
    have d0 := (hb.out.cell (p := ⟨b, off + k, none⟩) hblt).trans (c0 _ rfl)
    have l0 : b < wr.heap.size := Nat.lt_of_lt_of_le hblt hb.out.size
    have hxi : BgIn wr x.A x.n x.cs := (Hi.out x (List.mem_of_getElem? hx)).after hb.out
    have Hx := Lib.hid hxi
    have Htk := Lib.hid (allC_take hx)
    have Htt : Hid (∀ y ∈ bs.take (k + 1), y ∈ bs.take k ∨ y = x) := Lib.hid fun y hy => by
     rw [List.take_add_one, hx] at hy
     rcases List.mem_append.1 hy with hy | hy
     · exact .inl hy
     · simp at hy; exact .inr hy
    have Hno : Hid (mayBag (pl x.cs) = false → plusR (bs.map fun b => pl b.cs) = []) := Lib.hid fun hf => by
     unfold plusR
     rw [if_neg]
     intro ha
     rw [Bool.and_eq_true] at ha
     rw [List.all_eq_true.1 ha.1 (pl x.cs) (List.mem_map.2 ⟨x, List.mem_of_getElem? hx, rfl⟩)] at hf
     cases hf
    have Hlen : Hid ((allC (bs.take k)).length + x.cs.length ≤ 100000) := Lib.hid (by
     have h1 := totB_take bs k x hx
     have h2 := totB_le bs (k + 1)
     have h3 := allC_len (bs := bs.take k) fun b hb => (Hi.out b (List.mem_of_mem_take hb)).len
     have h4 := hxi.len
     have := Ht.out
     omega)
    clear c0 hblt hx hxi
    obtain ⟨xA, xn, xc, cs⟩ := x
    simp only [] at d0
    have HM := Lib.hid (mayBag_c xA xn xc cs wr Hx.out)
    go_wp2_with fail
    refine HM.out.mono ?_
    rintro e w1 ⟨rfl, hb1⟩
    have Hb2 := Lib.hid (below_via hb.out hb1)
    have HO1 := Lib.hid (ho.out.after hb1)
    have Hx1 := Lib.hid (Hx.out.after hb1)
    clear hb1 hb d0 HM ho Hx
    cases hM : mayBag (pl cs)
    · have Hno2 := Lib.hid (Hno.out hM)
      clear Hno
      go_wp2
      go_ret
      exact ⟨none, 0, 0, [], rfl, Hb2.out, BgIn.none _, Hno2.out.symm⟩
    · have Hall2 : Hid (∀ b ∈ bs.take (k + 1), mayBag (pl b.cs) = true) := Lib.hid fun b hb => by
       rcases Htt.out b hb with h | h
       · exact hall.out b h
       · subst h; exact hM
      clear Hno hall Htt hM
      go_wp2_with (at_builtin; go_must (refine wpList_appU rfl (.tmp 16) (.tmp 17) rfl w.heap.size _ (allC (bs.take k)) cs xA xn xc rfl HO1.out rfl Hx1.out.len Hx1.out.sl (by have := Hlen.out; unfold maxLen; omega) (by have := Hlen.out; omega) Hb2.out.size ?_; intro v1 w2 hv1 hg1; rw [← Htk.out] at hv1; have Hb3 := Lib.hid (Hb2.out.grown hg1 Hb2.out.size (fun k hk => (HO1.out.lt k hk).1)); have Hv1 := Lib.hid hv1; clear hv1 hg1))
      go_roundw
      case rel => exact ⟨k + 1, by omega, by go_num, Hb3, Hv1, Hall2⟩
      case measure => simp [intOf]; omega
  · obtain rfl : k = n := by omega
    have ht : bs.take k = bs := List.take_of_length_le (by rw [Hl.out]; omega)
    rw [ht] at ho hall
    obtain ⟨A1, c1, rfl⟩ := ho.out.isSlice
    have hlen : (allC bs).length ≤ 100000 := by
     rw [allC_len fun b hb => (Hi.out b hb).len]
     exact Ht.out
    have hct : ∀ c ∈ allC bs, Ct.In w c := fun c hc => by
     obtain ⟨b, hb, hc⟩ := List.mem_flatMap.1 hc
     exact (Hi.out b hb).each c hc
    have hmay : ∀ x ∈ pl (allC bs), ∃ b ∈ bs.map (fun b => pl b.cs), mayBag b = true ∧ x ∈ b := fun x hx => by
     rw [allC_pl] at hx
     obtain ⟨b, hb, hx⟩ := List.mem_flatten.1 hx
     obtain ⟨q, hq, rfl⟩ := List.mem_map.1 hb
     exact ⟨_, hb, hall.out q hq, hx⟩
    have HM := Lib.hid (merged_c A1 (allC bs).length c1 (allC bs) wr rfl hlen (by
     rcases ho.out.wrC rfl with h | ⟨g, off, h1, h2, h3⟩
     · exact .inl h
     · exact .inr ⟨g, off, h1, h2, fun c hc => OutC.old (hct c hc) hb.out h3⟩) (fun c hc => by
     obtain ⟨b, _, h1, h2⟩ := hmay _ (pl_mem hc)
     exact mayBag_rows h1 _ h2) (fun x hx => by
     obtain ⟨b, _, h1, h2⟩ := hmay _ hx
     exact bd_may h1 x h2))
    have Hg : Hid (∀ g off, A1 = some ⟨g, off, none⟩ → w.heap.size ≤ g) := Lib.hid fun g off e => (ho.out.lt g (by rw [e]; rfl)).1
    have Hlen := Lib.hid hlen
    have Hall : Hid (∀ b ∈ bs.map (fun b => pl b.cs), mayBag b = true) := Lib.hid fun b hb => by
     obtain ⟨q, hq, rfl⟩ := List.mem_map.1 hb
     exact hall.out q hq
    clear hlen hct hmay ht hall ho
    go_wp2_with fail
    refine HM.out.mono ?_
    rintro e w2 ⟨A', m, c', ol, rfl, hS⟩
    have HS := Lib.hid hS
    have Hb2 := Lib.hid (hS.below w w.heap.size hb.out Hg.out (Nat.le_refl _))
    have hm5 : m ≤ 100000 := Nat.le_trans hS.le Hlen.out
    have Hc := Lib.hid (contains_c A' m c' ol w2 (hS.bg (by have := Hlen.out; unfold maxLen; omega)))
    have Hr : Hid (plusR (bs.map fun b => pl b.cs) = if (ol.any fun x => beyB x.N) then [] else (pl ol).filter fun x => !(x.2 == 0)) := Lib.hid (by
     obtain ⟨p, hp, hmi⟩ := hS.mi
     rw [allC_pl] at hp
     have h1 := bey_may Hall.out hmi hp
     have h2 : (pl ol).any (fun x => beyB x.2) = ol.any fun x => beyB x.N := by unfold pl; rw [List.any_map]; rfl
     rw [h2] at h1
     unfold plusR
     rw [List.all_eq_true.2 Hall.out, Bool.true_and, h1, hmi.plus hp]
     cases ol.any fun x => beyB x.N <;> rfl)
    have Hsz := Lib.hid hb.out.size
    clear hS HM hb
    go_wp2_with fail
    refine Hc.out.mono ?_
    rintro e w3 ⟨rfl, hb3⟩
    cases hany : ol.any fun x => beyB x.N
    · have Hr2 : Hid (plusR (bs.map fun b => pl b.cs) = (pl ol).filter fun x => !(x.2 == 0)) := Lib.hid (by rw [Hr.out, hany]; rfl)
      have Hb3 := Lib.hid (below_via Hb2.out hb3)
      have HD := Lib.hid (del_c A' m c' w.heap.size ol w3 ((HS.out.own.after hb3).mono Hsz.out) HS.out.len hm5 (HS.out.apart.after hb3) Hb3.out.size)
      clear Hr hb3 Hc
      go_wp2_with fail
      refine HD.out.mono ?_
      rintro e w4 ⟨A4, m4, c4, rfl, hD⟩
      have HF : Hid (∃ cs', Below w.heap.size w w4 ∧ BgIn w4 A4 m4 cs' ∧ pl cs' = plusR (bs.map fun b => pl b.cs)) := Lib.hid (by
       obtain ⟨cs', h1, h2⟩ := hD.bg
       exact ⟨cs', hD.below w w.heap.size Hb3.out (Nat.le_refl _) (Nat.le_refl _), h1, by rw [h2, Hr2.out]⟩)
      clear hD HD
      go_wp2
      go_ret
      obtain ⟨cs', h1, h2, h3⟩ := HF.out
      exact ⟨A4, m4, c4, cs', rfl, h1, h2, h3⟩
    · have Hr2 : Hid (plusR (bs.map fun b => pl b.cs) = []) := Lib.hid (by rw [Hr.out, hany]; rfl)
      have Hb3 := Lib.hid (below_via Hb2.out hb3)
      clear Hr hb3 Hc
      go_wp2
      go_ret
      exact ⟨none, 0, 0, [], rfl, Hb3.out, BgIn.none _, Hr2.out.symm⟩
attribute [local go_sem ↓] Go.wp_at_zero Go.wp_at_succ
structure Vq where
 name : ByteArray
 frm : ByteArray
 wth : ByteArray
 on0 : Int
 on1 : Int
 eA : Option Addr
 en : Nat
 ec : Nat
 e : List Nd
 pA : Option Addr
 pn : Nat
 pc : Nat
 ps : List Int
 grp : Bool
 aA : Option Addr
 an : Nat
 ac : Nat
abbrev Vq.w (x : Vq) : Value := .agg #[.string x.name, .string x.frm, .string x.wth, .int .i64 x.on0, .int .i64 x.on1, .slice x.eA x.en x.ec, .slice x.pA x.pn x.pc, .bool x.grp, .slice x.aA x.an x.ac]
def Vq.cells (x : Vq) : Array Value := #[.string x.name, .string x.frm, .string x.wth, .int .i64 x.on0, .int .i64 x.on1, .slice x.eA x.en x.ec, .slice x.pA x.pn x.pc, .bool x.grp, .slice x.aA x.an x.ac]
structure Vq.In (w : World) (x : Vq) : Prop where
 elen : x.e.length = x.en
 emax : x.en ≤ maxLen
 esl : SlN w x.eA x.e
 ez : ∀ n ∈ x.e, n.v.s.size ≤ maxLen
 plen : x.ps.length = x.pn
 pmax : x.pn ≤ maxLen
 psl : SlG w x.pA 1 rdI x.ps
theorem Vq.In.after {w w' : World} {x : Vq} (h : Vq.In w x) (hb : Below w.heap.size w w') : Vq.In w' x := ⟨h.elen, h.emax, h.esl.after hb, h.ez, h.plen, h.pmax, h.psl.after hb⟩
def Bq (w : World) (b : Nat) (x : Vq) : Prop := w.heap[b]? = some (.cells x.cells 28 (0, 0))
theorem Bq.new (w : World) (x : Vq) : Bq (w.alloc (.cells x.cells 28)) w.heap.size x := by
 show (w.heap.push _)[w.heap.size]? = _
 simp
theorem Bq.below {w w' : World} {b B : Nat} {x : Vq} (h : Bq w b x) (hb : Below B w w') (hlt : b < B) : Bq w' b x := (hb.block b hlt).trans h
theorem Bq.on {w : World} {b : Nat} {x : Vq} (h : Bq w b x) : w.cell? ⟨b, 3, none⟩ = some (.int .i64 x.on0) ∧ w.cell? ⟨b, 4, none⟩ = some (.int .i64 x.on1) := by
 unfold Bq at h
 constructor <;> simp [World.cell?, h, Vq.cells]
theorem Bq.wth {w : World} {b : Nat} {x : Vq} (h : Bq w b x) : w.cell? ⟨b, 2, none⟩ = some (.string x.wth) := by
 unfold Bq at h
 simp [World.cell?, h, Vq.cells]
theorem Bq.whr {w : World} {b : Nat} {x : Vq} (h : Bq w b x) : w.cell? ⟨b, 5, none⟩ = some (.slice x.eA x.en x.ec) := by
 unfold Bq at h
 simp [World.cell?, h, Vq.cells]
theorem Bq.pick {w : World} {b : Nat} {x : Vq} (h : Bq w b x) : w.cell? ⟨b, 6, none⟩ = some (.slice x.pA x.pn x.pc) := by
 unfold Bq at h
 simp [World.cell?, h, Vq.cells]
theorem plus_one {b : Bg} (h : mayBag b = true) : plusR [b] = b := by
 have e : plusL [b] = b := both_nil (may_asc h) (may_nz h)
 unfold plusR
 rw [e, List.all_cons, h]
 rfl
theorem bgIn_nil (w : World) : BgIn w none 0 [] := ⟨rfl, Nat.zero_le _, .inl rfl, nofun⟩
structure ErrSaid (w : World) (A : Option Addr) (n : Nat) (os : List Ct) (er : Int) (r : Option Bg) (w' : World) : Prop where
 below : Below w.heap.size w w'
 bag : BgIn w' A n os
 said : match r with | some p => er = 0 ∧ pl os = p | none => er = 100 ∧ os = []
theorem joined_c (A : Option Addr) (n c : Nat) (bs : List Bh) (L : Bg) (w : World) (hl : bs.length = n) (hn : n ≤ 10000) (hsl : SlG w A 1 rdBh bs) (hin : ∀ b ∈ bs, Bh.In w b) (ht : totB bs = n) (hL : bs.map (fun b => pl b.cs) = ones L) :
 Calls Try.prog 29 #[.slice A n c] w fun e w' => ∃ A' n' c' os er, e = .returned (.tuple #[.slice A' n' c', .int .i64 er]) ∧ ErrSaid w A' n' os er (joinedR L) w' := by
 have hLl : L.length = n := by
  have := congrArg List.length hL
  unfold ones at this
  rw [List.length_map, List.length_map, hl] at this
  exact this.symm
 have hc := plus_c A n c bs w hl hn hsl hin (by omega)
 rw [hL] at hc
 have HC := Lib.hid hc
 have HL := Lib.hid hLl
 clear hc hLl hsl hin ht hL hl
 go_enter Try.func29, Try.ntmps29
 go_wp2_with fail
 refine HC.out.mono ?_
 rintro e w1 ⟨A', n', c', os, rfl, hb, hB, hp⟩
 have Hb := Lib.hid hb
 have HB := Lib.hid hB
 have Hn' : Hid ((plusR (ones L)).length = n') := Lib.hid (by rw [← hp, pl_len, hB.len])
 have Hp := Lib.hid hp
 clear hb hB hp HC
 by_cases h0 : n' = 0
 · by_cases h1 : n = 0
   · have HF : Hid (ErrSaid w A' n' os 0 (joinedR L) w1) := Lib.hid ⟨Hb.out, HB.out, by
      unfold joinedR
      rw [if_neg (by rw [HL.out]; omega)]
      exact ⟨rfl, Hp.out⟩⟩
     have h2 : (n' : Int) = 0 := by omega
     have h3 : ¬ (0 : Int) < n := by omega
     subst h0 h1
     go_wp2
     go_ret2
     exact ⟨_, _, _, _, _, rfl, HF.out⟩
   · have HF : Hid (ErrSaid w none 0 [] 100 (joinedR L) w1) := Lib.hid ⟨Hb.out, bgIn_nil _, by
      unfold joinedR
      rw [if_pos ⟨by rw [Hn'.out]; exact h0, by rw [HL.out]; omega⟩]
      exact ⟨rfl, rfl⟩⟩
     have h3 : (0 : Int) < n := by omega
     subst h0
     go_wp2
     go_ret2
     exact ⟨_, _, _, _, _, rfl, HF.out⟩
 · have HF : Hid (ErrSaid w A' n' os 0 (joinedR L) w1) := Lib.hid ⟨Hb.out, HB.out, by
    unfold joinedR
    rw [if_neg (by rw [Hn'.out]; omega)]
    exact ⟨rfl, Hp.out⟩⟩
   have h2 : ((n' : Int) == 0) = false := by simp [h0]
   go_wp2
   go_ret2
   exact ⟨_, _, _, _, _, rfl, HF.out⟩
end Go.Proofs.Ytbpopkgpepmlcaa
namespace Go.Proofs.Ytbpopkgpepmlcaa
open Go Go.RowKit
set_option maxRecDepth 100000
attribute [local go_sem ↓] Go.wp_at_zero Go.wp_at_succ
set_option maxHeartbeats 4000000 in
theorem product_c (x : Vq) (A B : Option Addr) (n m c d : Nat) (cs ds : List Ct) (w : World) (hA : BgIn w A n cs) (hB : BgIn w B m ds) (hn : n ≤ 100000) (hm : m ≤ 100000) :
 Calls Try.prog 12 #[x.w, .slice A n c, .slice B m d] w fun e w' => ∃ A' n' c' os er, e = .returned (.tuple #[.slice A' n' c', .int .i64 er]) ∧ ErrSaid w A' n' os er (productR x.wth.toList.isEmpty x.on0 x.on1 (pl cs) (pl ds)) w' := by
 have HQ : Hid (Bq (w.alloc (.cells x.cells 28)) w.heap.size x) := Lib.hid (Bq.new w x)
 have HA := Lib.hid hA
 have HB := Lib.hid hB
 clear hA hB
 obtain ⟨nm, fr, wt, o0, o1, eA, en, ec, ee, pA, pn, pc, ps, gr, aA, an, ac⟩ := x
 have Hb0 : Hid (Below w.heap.size w (w.alloc (.cells #[.string nm, .string fr, .string wt, .int .i64 o0, .int .i64 o1, .slice eA en ec, .slice pA pn pc, .bool gr, .slice aA an ac] 28))) := Lib.hid (below_one _ _)
 have Hl0 : Hid (w.heap.size < (w.alloc (.cells #[.string nm, .string fr, .string wt, .int .i64 o0, .int .i64 o1, .slice eA en ec, .slice pA pn pc, .bool gr, .slice aA an ac] 28)).heap.size) := Lib.hid (by simp)
 have HQ1 : Hid (Bq (w.alloc (.cells #[.string nm, .string fr, .string wt, .int .i64 o0, .int .i64 o1, .slice eA en ec, .slice pA pn pc, .bool gr, .slice aA an ac] 28)) w.heap.size ⟨nm, fr, wt, o0, o1, eA, en, ec, ee, pA, pn, pc, ps, gr, aA, an, ac⟩) := HQ
 clear HQ
 dsimp only [Vq.w]
 go_enter Try.func12, Try.ntmps12
 go_wp2_with fail
 refine (mayBag_c A n c cs _ (HA.out.after Hb0.out)).mono ?_
 rintro e w1 ⟨rfl, hb1⟩
 have Hb1 := Lib.hid (below_via Hb0.out hb1)
 have HQ2 := Lib.hid (HQ1.out.below hb1 Hl0.out)
 have Hl1 := Lib.hid (Nat.lt_of_lt_of_le Hl0.out hb1.size)
 clear hb1 Hb0 HQ1 Hl0
 cases hma : mayBag (pl cs)
 · have HF : Hid (ErrSaid w none 0 [] 0 (productR wt.toList.isEmpty o0 o1 (pl cs) (pl ds)) w1) := Lib.hid ⟨Hb1.out, bgIn_nil _, by
    unfold productR
    rw [hma]
    exact ⟨rfl, rfl⟩⟩
   clear hma
   go_wp2
   go_ret2
   exact ⟨_, _, _, _, _, rfl, HF.out⟩
 · have Hma := Lib.hid hma
   clear hma
   go_wp2_with fail
   refine (mayBag_c B m d ds _ (HB.out.after Hb1.out)).mono ?_
   rintro e w2 ⟨rfl, hb2⟩
   have Hb2 := Lib.hid (below_via Hb1.out hb2)
   have HQ3 := HQ2.out.below hb2 Hl1.out
   have l2 := Nat.lt_of_lt_of_le Hl1.out hb2.size
   clear hb2 Hb1 HQ2 Hl1
   cases hmb : mayBag (pl ds)
   · have HF : Hid (ErrSaid w none 0 [] 0 (productR wt.toList.isEmpty o0 o1 (pl cs) (pl ds)) w2) := Lib.hid ⟨Hb2.out, bgIn_nil _, by
      unfold productR
      rw [hmb, Bool.and_false]
      exact ⟨rfl, rfl⟩⟩
     clear hmb HQ3
     go_wp2
     go_ret2
     exact ⟨_, _, _, _, _, rfl, HF.out⟩
   · have Hmb := Lib.hid hmb
     have d2 := HQ3.wth
     have d3 := HQ3.on.1
     have d4 := HQ3.on.2
     simp only at d2 d3 d4
     clear hmb HQ3
     cases he : wt.toList.isEmpty
     · go_wp2_with fail
       refine (paired_c A B n m c d cs ds o0 o1 _ (HA.out.after Hb2.out) (HB.out.after Hb2.out) hn hm Hma.out Hmb.out).mono ?_
       rintro e w3 ⟨v, ok, rfl, hS⟩
       have Hb3 := Lib.hid (below_via Hb2.out hS.below)
       cases ok
       · have HF : Hid (ErrSaid w none 0 [] 100 (productR wt.toList.isEmpty o0 o1 (pl cs) (pl ds)) w3) := Lib.hid ⟨Hb3.out, bgIn_nil _, by
          rw [he, product_many Hma.out Hmb.out (by have := hS.how; simpa using this)]
          exact ⟨rfl, rfl⟩⟩
         clear hS
         go_wp2
         go_ret2
         exact ⟨_, _, _, _, _, rfl, HF.out⟩
       · obtain ⟨A3, n3, c3, ps3, rfl, h1, h2, h3, h4, h5⟩ := hS.said rfl
         have hle : (pairL o0 o1 (pl cs) (pl ds)).length ≤ 10000 := by have := hS.how; simpa using this
         have hn3 : n3 ≤ 10000 := by
          have := congrArg List.length h5
          unfold ones at this
          rw [List.length_map, List.length_map, h1] at this
          omega
         have Hj := Lib.hid (joined_c A3 n3 c3 ps3 (pairL o0 o1 (pl cs) (pl ds)) w3 h1 hn3 h2 h3 h4 h5)
         have Hjp := Lib.hid (joined_product Hma.out Hmb.out hle)
         clear hS h1 h2 h3 h4 h5 hle
         go_wp2_with fail
         refine Hj.out.mono ?_
         rintro e w4 ⟨A4, n4, c4, os, er, rfl, hE⟩
         have HF : Hid (ErrSaid w A4 n4 os er (productR wt.toList.isEmpty o0 o1 (pl cs) (pl ds)) w4) := Lib.hid ⟨below_via Hb3.out hE.below, hE.bag, by
          rw [he, ← Hjp.out]
          exact hE.said⟩
         clear hE
         go_wp2
         go_ret2
         exact ⟨_, _, _, _, _, rfl, HF.out⟩
     · have hcp := plus_c (some ⟨w2.heap.size, 0, none⟩) 1 1 [⟨A, n, c, cs⟩] (w2.alloc (.cells #[.slice A n c] 30)) rfl (by omega) (SlG.new bOkQ.len [⟨A, n, c, cs⟩] rfl) (fun h hh => by rw [List.mem_singleton] at hh; subst hh; exact HA.out.after (below_via Hb2.out (below_one _ _))) (by show n + 0 ≤ 100000; omega)
       simp only [List.map_cons, List.map_nil] at hcp
       rw [plus_one Hma.out] at hcp
       have Hcp := Lib.hid hcp
       clear hcp
       go_wp2_with fail
       refine Hcp.out.mono ?_
       rintro e w3 ⟨A3, n3, c3, os, rfl, hb3, hB3, hp3⟩
       have HF : Hid (ErrSaid w A3 n3 os 0 (productR wt.toList.isEmpty o0 o1 (pl cs) (pl ds)) w3) := Lib.hid ⟨below_via (below_via Hb2.out (below_one _ _)) hb3, hB3, by
        unfold productR
        rw [he, Hma.out, Hmb.out]
        exact ⟨rfl, hp3⟩⟩
       clear hb3 hB3 hp3
       go_wp2
       go_ret2
       exact ⟨_, _, _, _, _, rfl, HF.out⟩
end Go.Proofs.Ytbpopkgpepmlcaa
namespace Go.Proofs.Ytbpopkgpepmlcaa
open Go Go.RowKit
set_option maxRecDepth 100000
attribute [local go_sem ↓] Go.wp_at_zero Go.wp_at_succ
structure WhereSaid (w : World) (f : List Val → Bool × Int) (cs : List Ct) (A : Option Addr) (n : Nat) (os : List Ct) (er : Int) (w' : World) : Prop where
 below : Below w.heap.size w w'
 bag : BgIn w' A n os
 er : er = if mayBag (pl cs) then errW f (pl cs) else 0
 said : pl os = if mayBag (pl cs) then whereR f (pl cs) else []
set_option maxHeartbeats 4000000 in
theorem where_c (x : Vq) (A : Option Addr) (n c : Nat) (cs : List Ct) (w : World) (hx : Vq.In w x) (hA : BgIn w A n cs) (hn : n ≤ 100000) :
 Calls Try.prog 14 #[x.w, .slice A n c] w fun e w' => ∃ A' n' c' os er, e = .returned (.tuple #[.slice A' n' c', .int .i64 er]) ∧ WhereSaid w (trueR x.e) cs A' n' os er w' := by
 have HQ : Hid (Bq (w.alloc (.cells x.cells 28)) w.heap.size x) := Lib.hid (Bq.new w x)
 have HX := Lib.hid hx
 have HA := Lib.hid hA
 clear hA hx
 obtain ⟨nm, fr, wt, o0, o1, eA, en, ec, ee, pA, pn, pc, ps, gr, aA, an, ac⟩ := x
 have Hb0 : Hid (Below w.heap.size w (w.alloc (.cells #[.string nm, .string fr, .string wt, .int .i64 o0, .int .i64 o1, .slice eA en ec, .slice pA pn pc, .bool gr, .slice aA an ac] 28))) := Lib.hid (below_one _ _)
 have Hl0 : Hid (w.heap.size < (w.alloc (.cells #[.string nm, .string fr, .string wt, .int .i64 o0, .int .i64 o1, .slice eA en ec, .slice pA pn pc, .bool gr, .slice aA an ac] 28)).heap.size) := Lib.hid (by simp)
 have HQ1 : Hid (Bq (w.alloc (.cells #[.string nm, .string fr, .string wt, .int .i64 o0, .int .i64 o1, .slice eA en ec, .slice pA pn pc, .bool gr, .slice aA an ac] 28)) w.heap.size ⟨nm, fr, wt, o0, o1, eA, en, ec, ee, pA, pn, pc, ps, gr, aA, an, ac⟩) := HQ
 clear HQ
 dsimp only [Vq.w]
 go_enter Try.func14, Try.ntmps14
 go_wp2_with fail
 refine (mayBag_c A n c cs _ (HA.out.after Hb0.out)).mono ?_
 rintro e W ⟨rfl, hb1⟩
 have HbW := Lib.hid (below_via Hb0.out hb1)
 have HQ2 := HQ1.out.below hb1 Hl0.out
 have HlW := Lib.hid (Nat.lt_of_lt_of_le Hl0.out hb1.size)
 have Hq5 := Lib.hid HQ2.whr
 clear hb1 Hb0 HQ1 Hl0 HQ2
 cases hma : mayBag (pl cs)
 · have HF : Hid (WhereSaid w (trueR ee) cs none 0 [] 0 W) := Lib.hid ⟨HbW.out, bgIn_nil _, by rw [hma]; rfl, by rw [hma]; rfl⟩
   clear hma
   go_wp2
   go_ret2
   exact ⟨_, _, _, _, _, rfl, HF.out⟩
 · have Hma := Lib.hid hma
   clear hma
   go_wp2_with fail
   go_loopw [6, 16] (fun v q wr => ∃ (k m : Nat) (A' : Option Addr) (c' : Nat) (ol : List Ct), k ≤ n ∧ m ≤ k ∧ q = .int .i64 k ∧ v = .slice A' m c' ∧ Hid (ol.length = m) ∧ Hid (Below W.heap.size W wr) ∧ Hid (OwnG wr W.heap.size 46 2 rdC (.slice A' m c') ol) ∧ Hid (ApartC wr A' ol) ∧ Hid (pl ol = stayB (fun r => (trueR ee r).1) ((pl cs).take k)) ∧ Hid (errW (trueR ee) (pl cs) = errW (trueR ee) ((pl cs).drop k))) (fun _ q _ => n - (intOf q).toNat)
   case atStart => exact ⟨0, 0, none, 0, [], Nat.zero_le _, Nat.le_refl _, rfl, rfl, Lib.hid rfl, Lib.hid (Below.refl _ _), Lib.hid (OwnG.nil _ _ _), Lib.hid (ApartC.nil _ _), Lib.hid rfl, Lib.hid rfl⟩
   case round =>
    obtain ⟨k, m, A', c', ol, hk, hmk, rfl, rfl, hol, hb, ho, hap, hst, her⟩ := hrel
    by_cases hlt : k < n
    · obtain ⟨b, off, rfl⟩ := HA.out.sl.some2 (k := k) (by rw [HA.out.len]; exact hlt)
      obtain ⟨x, hx⟩ : ∃ x, cs[k]? = some x := ⟨_, List.getElem?_eq_getElem (by rw [HA.out.len]; exact hlt)⟩
      obtain ⟨hblt, c0, c1⟩ := (HA.out.after HbW.out).sl.cell2 hx
      have d0 := (hb.out.cell (p := ⟨b, off + k * 2, none⟩) hblt).trans c0
      have d1 := (hb.out.cell (p := ⟨b, off + k * 2 + 1, none⟩) hblt).trans c1
      have l0 : b < wr.heap.size := Nat.lt_of_lt_of_le hblt hb.out.size
      have d5 := (hb.out.cell (p := ⟨w.heap.size, 5, none⟩) HlW.out).trans Hq5.out
      have l5 : w.heap.size < wr.heap.size := Nat.lt_of_lt_of_le HlW.out hb.out.size
      try simp only at d5
      have Hxr := Lib.hid (((HA.out.each x (List.mem_of_getElem? hx)).after HbW.out).after hb.out)
      have HVr := Lib.hid ((HX.out.after HbW.out).after hb.out)
      have Hmx := Lib.hid (may_row Hma.out (pl_mem (List.mem_of_getElem? hx)))
      have Hstk := Lib.hid (stay_take (fun r => (trueR ee r).1) (pl_at hx))
      have Herk := Lib.hid (errW_drop (trueR ee) (pl cs) k _ (pl_at hx))
      clear c0 c1 hx
      obtain ⟨⟨xA, xn, xc, xs⟩, N⟩ := x
      have hgo : (k : Int) < n := by omega
      have Hb1 : Hid (Below wr.heap.size wr (wr.alloc (.cells #[.slice xA xn xc, .int .i64 N] 46))) := Lib.hid (below_one _ _)
      have dg0 : Hid ((wr.alloc (.cells #[.slice xA xn xc, .int .i64 N] 46)).cell? ⟨wr.heap.size, 0, none⟩ = some (.slice xA xn xc)) := Lib.hid (by simp)
      have dg1 : Hid ((wr.alloc (.cells #[.slice xA xn xc, .int .i64 N] 46)).cell? ⟨wr.heap.size, 1, none⟩ = some (.int .i64 N)) := Lib.hid (by simp)
      have lg1 : wr.heap.size < (wr.alloc (.cells #[.slice xA xn xc, .int .i64 N] 46)).heap.size := by simp
      have Hx1 := Lib.hid (Hxr.out.after Hb1.out)
      have HV1 := Lib.hid (HVr.out.after Hb1.out)
      go_wp2_with fail
      refine (true_c eA xA en ec xn xc ee xs _ HV1.out.elen HV1.out.esl HV1.out.emax Hx1.out.hd.len Hx1.out.hd.sl HV1.out.ez).mono ?_
      rintro e w8 ⟨rfl, hb8⟩
      have Ht2 := Hstk.out
      have He2 := Herk.out
      try simp only at Ht2
      try simp only at He2
      obtain ⟨tb, htb⟩ : ∃ tb, (trueR ee xs).1 = tb := ⟨_, rfl⟩
      obtain ⟨er, her2⟩ : ∃ er, (trueR ee xs).2 = er := ⟨_, rfl⟩
      rw [htb] at Ht2 ⊢
      rw [her2] at He2 ⊢
      have Hst2 := Lib.hid Ht2
      have Her2 := Lib.hid He2
      have Hb8 := Lib.hid (hb.out.trans ((below_via Hb1.out hb8).mono hb.out.size))
      have HbW8 := Lib.hid (below_via Hb1.out hb8)
      have g0 := (hb8.cell (p := ⟨wr.heap.size, 0, none⟩) lg1).trans dg0.out
      have g1 := (hb8.cell (p := ⟨wr.heap.size, 1, none⟩) lg1).trans dg1.out
      have lg8 : wr.heap.size < w8.heap.size := Nat.lt_of_lt_of_le lg1 hb8.size
      clear hb8 dg0 dg1 Hb1 Hx1 HV1 HVr htb her2 Ht2 He2 Hstk Herk d0 d1 d5
      by_cases h0 : er = 0
      · have Her3 : Hid (errW (trueR ee) (pl cs) = errW (trueR ee) ((pl cs).drop (k + 1))) := Lib.hid (by rw [her.out, Her2.out, if_pos h0])
        have h1 : (er != 0) = false := by simp [h0]
        have H0 := Lib.hid h0
        clear h0
        cases tb
        · have Hst3 : Hid (pl ol = stayB (fun r => (trueR ee r).1) ((pl cs).take (k + 1))) := Lib.hid (by rw [Hst2.out, hst.out]; simp)
          have Hap8 := Lib.hid (hap.out.after HbW8.out)
          have Ho8 := Lib.hid (ho.out.after HbW8.out)
          clear hst her Hst2 Her2 hap ho hb
          go_wp2_with fail
          go_roundw
          case rel => exact ⟨k + 1, m, A', c', ol, by omega, by omega, by go_num, rfl, hol, Hb8, Ho8, Hap8, Hst3, Her3⟩
          case measure => simp [intOf]; omega
        · have HOr : Hid (∀ k, (Value.slice A' m c').ownBlock = some k → k < wr.heap.size) := Lib.hid fun k hk => (ho.out.lt k hk).2
          have HO8 := Lib.hid (ho.out.after HbW8.out)
          have HA8 := Lib.hid (hap.out.after HbW8.out)
          have Hx8 := Lib.hid (Hxr.out.after HbW8.out)
          clear hap ho hb Hxr
          have G0 := Lib.hid g0
          have G1 := Lib.hid g1
          have Hjn : Hid (joinR [(⟨xA, xn, xc, xs⟩ : Hd)] = xs) := Lib.hid (by simp [joinR])
          go_wp2_with fail
          go_region_held3 (fun w' => w'.cell? ⟨wr.heap.size, 0, none⟩ = some (.slice xA xn xc) ∧ w'.cell? ⟨wr.heap.size, 1, none⟩ = some (.int .i64 N)) (first | exact HGC9.out | exact HGCa.out | go_keep)
           (first
             | (go_at_call 31
                have hbj := Lib.hid (((Below.refl w8.heap.size w8).alloc (Nat.le_refl _) (.cells #[.slice xA xn xc] 44)).drew)
                have hsj : Hid (SlG (w8.alloc (.cells #[.slice xA xn xc] 44)).drew (some ⟨w8.heap.size, 0, none⟩) 1 rdH [⟨xA, xn, xc, xs⟩]) := Lib.hid ((SlG.new hOk.len [⟨xA, xn, xc, xs⟩] rfl).after (Below.refl _ _).drew)
                refine (join_c (some ⟨w8.heap.size, 0, none⟩) 1 1 [⟨xA, xn, xc, xs⟩] (w8.alloc (.cells #[.slice xA xn xc] 44)).drew rfl (by unfold maxLen; omega) hsj.out (fun h' hh' => by rw [List.mem_singleton] at hh'; subst hh'; exact Hx8.out.hd.after hbj.out) (by rw [Hjn.out]; have h7 : xs.length ≤ 40 := Hmx.out.1; omega)).mono ?_
                rintro en w9 ⟨v9, rfl, hb9, hv9⟩
                rw [Hjn.out] at hv9
                obtain ⟨h9, rfl, hIn9, hxs9, hbl9, hnc9⟩ := hv9.hd
                have Hb9 := Lib.hid (Hb8.out.trans ((below_via hbj.out hb9).mono Hb8.out.size))
                have Hb89 := Lib.hid (below_via hbj.out hb9)
                have HGC9 : Hid (w9.cell? ⟨wr.heap.size, 0, none⟩ = some (.slice xA xn xc) ∧ w9.cell? ⟨wr.heap.size, 1, none⟩ = some (.int .i64 N)) := Lib.hid ⟨(Hb89.out.cell lg8).trans G0.out, (Hb89.out.cell lg8).trans G1.out⟩
                have HO9 := Lib.hid (HO8.out.after Hb89.out)
                have Hs89 : Hid (w8.heap.size ≤ w9.heap.size) := Lib.hid Hb89.out.size
                have HOl : Hid (∀ k, (Value.slice A' m c').ownBlock = some k → k < w8.heap.size) := Lib.hid fun k hk => (HO8.out.lt k hk).2
                have HA9 := Lib.hid (HA8.out.after Hb89.out)
                have Hn9 := Lib.hid (NewC.of hIn9 hxs9 hbl9 Hx8.out hnc9)
                obtain ⟨h9A, h9n, h9c, h9xs⟩ := h9
                dsimp only [Hd.v]
                clear hv9 hIn9 hxs9 hbl9 hnc9 hb9 hbj hsj HO8 HA8)
             | (refine step_appL cOk (by rfl) (.tmp 32) (.tmp 40) (by rfl) W.heap.size (.slice A' m c') ol [⟨⟨h9A, h9n, h9c, h9xs⟩, N⟩] (by rfl) (HO9.out.after ((Below.refl _ _).alloc (Nat.le_refl _) _)) (some ⟨w9.heap.size, 0, none⟩) 1 1 (by rfl) rfl (SlG.new cOk.len [⟨⟨h9A, h9n, h9c, h9xs⟩, N⟩] rfl) (by rw [hol.out]; simp [maxLen]; omega) (by rw [hol.out]; simp; omega) (by have := Hb9.out.size; simp; omega) ?_
                intro A2 c2 w2 hv hg hloc
                rw [hol.out] at hv hloc ⊢
                have HX2 := Lib.hid (below_one w9 (.cells #[.slice h9A h9n h9c, .int .i64 N] 46))
                have Hv2 := Lib.hid hv
                have Hb2 := Lib.hid ((below_al Hb9.out (.cells #[.slice h9A h9n h9c, .int .i64 N] 46)).grown hg (by have := Hb9.out.size; simp; omega) (fun k hk => (HO9.out.lt k hk).1))
                have HA2 := Lib.hid (HA9.out.app HX2.out hg hloc Hn9.out.ct (fun b' off' hb' => ⟨fun e => by have h1 := (HOl.out b' e); have h2 := (Hn9.out.lt b' off' hb').1; simp at h2; omega, (Hn9.out.lt b' off' hb').2⟩) HO9.out.plain)
                have HGCa : Hid (w2.cell? ⟨wr.heap.size, 0, none⟩ = some (.slice xA xn xc) ∧ w2.cell? ⟨wr.heap.size, 1, none⟩ = some (.int .i64 N)) := Lib.hid (by
                 have hlt9 : wr.heap.size < w9.heap.size := Nat.lt_of_lt_of_le lg8 Hs89.out
                 have hne : some wr.heap.size ≠ (Value.slice A' m c').ownBlock := fun e => by have := HOr.out _ e.symm; omega
                 have hbk : w2.heap[wr.heap.size]? = w9.heap[wr.heap.size]? := (hg.block _ (Nat.lt_of_lt_of_le hlt9 HX2.out.size) hne).trans (HX2.out.block _ hlt9)
                 refine ⟨?_, ?_⟩
                 · rw [← HGC9.out.1]; simp only [World.cell?, hbk]
                 · rw [← HGC9.out.2]; simp only [World.cell?, hbk])
                clear hv hg hloc HX2))
          have Hst3 : Hid (pl (ol ++ [⟨⟨h9A, h9n, h9c, h9xs⟩, N⟩]) = stayB (fun r => (trueR ee r).1) ((pl cs).take (k + 1))) := Lib.hid (by
           rw [Hst2.out, ← hst.out, pl_app, pl_one]
           have e : h9xs = xs := Hn9.out.eq
           simp only [e]
           rfl)
          have Hol3 : Hid ((ol ++ [(⟨⟨h9A, h9n, h9c, h9xs⟩, N⟩ : Ct)]).length = m + 1) := Lib.hid (by rw [List.length_append, hol.out]; rfl)
          clear Hst2 Her2 hst her HGC9 HGCa HO9 HA9 Hn9 Hb9 Hb89
          go_wp2
          go_roundw
          case rel => exact ⟨k + 1, m + 1, A2, c2, ol ++ [⟨⟨h9A, h9n, h9c, h9xs⟩, N⟩], by omega, by omega, by go_num, rfl, Hol3, Hb2, Hv2, HA2, Hst3, Her3⟩
          case measure => simp [intOf]; omega
      · have HF : Hid (WhereSaid w (trueR ee) cs none 0 [] er w8) := Lib.hid (by
         have h1 : errW (trueR ee) (pl cs) = er := by rw [her.out, Her2.out, if_neg h0]
         refine ⟨below_via HbW.out Hb8.out, bgIn_nil _, by rw [Hma.out, if_pos rfl, h1], ?_⟩
         rw [Hma.out, if_pos rfl]
         unfold whereR
         rw [h1, if_neg h0]
         rfl)
        have h1 : (er != 0) = true := by simp [h0]
        clear her Her2 Hst2 hst hap ho h0
        go_wp2
        go_ret2
        exact ⟨_, _, _, _, _, rfl, HF.out⟩
    · obtain rfl : k = n := by omega
      have HF : Hid (WhereSaid w (trueR ee) cs A' m ol 0 wr) := Lib.hid (by
       have h1 : errW (trueR ee) (pl cs) = 0 := by
        rw [her.out, show (pl cs).drop k = [] from List.drop_eq_nil_of_le (by rw [pl_len, HA.out.len]; exact Nat.le_refl _)]
        rfl
       obtain ⟨A2, c2, e2, h2, h3, hs2⟩ := ho.out.sl cOk.len
       injection e2 with e2
       refine ⟨below_via HbW.out hb.out, ⟨hol.out, by rw [← hol.out]; omega, by rw [e2]; exact hs2, hap.out.each⟩, by rw [Hma.out, if_pos rfl, h1], ?_⟩
       rw [Hma.out, if_pos rfl]
       unfold whereR
       rw [h1, if_pos rfl, hst.out, show (pl cs).take k = pl cs from List.take_of_length_le (by rw [pl_len, HA.out.len]; exact Nat.le_refl _)])
      clear hol hb ho hap hst her
      go_wp2
      go_ret2
      exact ⟨_, _, _, _, _, rfl, HF.out⟩
end Go.Proofs.Ytbpopkgpepmlcaa
namespace Go.Proofs.Ytbpopkgpepmlcaa
open Go Go.RowKit
set_option maxRecDepth 100000
set_option maxHeartbeats 1000000 in
theorem pickL_c (A B : Option Addr) (n c m d : Nat) (xs : List Val) (cs : List Int) (w : World) (hn : xs.length = n) (_hn1 : n ≤ maxLen) (hs : Sl w A xs) (hm : cs.length = m) (hm1 : m ≤ 1000) (hk : SlG w B 1 rdI cs) :
 Calls Try.prog 32 #[.slice A n c, .slice B m d] w fun en w' => ∃ (h : Hd) (ok : Bool), en = .returned (.tuple #[h.v, .bool ok]) ∧ Below w.heap.size w w' ∧ Hd.In w' h ∧ pickOk xs cs h ok ∧ (∀ b off, h.A = some ⟨b, off, none⟩ → w.heap.size ≤ b ∧ b < w'.heap.size) ∧ h.n ≤ h.c := by
 unfold maxLen at _hn1
 obtain ⟨cells, hcs, hmk⟩ := make_run vOk m (by omega) (by unfold maxLen; omega)
 have Hs := Lib.hid hs
 have Hn := Lib.hid hn
 have Hm := Lib.hid hm
 have Hk := Lib.hid hk
 have Hcs := Lib.hid hcs
 clear hs hn hm hk hcs
 go_enter Try.func32, Try.ntmps32
 go_wp2_with fail
 have Hmk : Hid (Mk (w.alloc (.cells cells 48)) w.heap.size 3 m rdV []) := Mk.new w cells _ Hcs.out
 have Hb1 : Hid (Below w.heap.size w (w.alloc (.cells cells 48))) := below_one _ _
 clear hmk Hcs
 go_loopw [14] (fun i wr => ∃ k : Nat, k ≤ m ∧ i = .int .i64 k ∧ Hid (Below w.heap.size w wr) ∧ ∃ l : List Val, Hid (l.length = k ∧ Mk wr w.heap.size 3 m rdV l ∧ pickR xs cs = (pickR xs (cs.drop k)).map (l ++ ·))) (fun i _ => m - (intOf i).toNat)
 case atStart => exact ⟨0, Nat.zero_le _, rfl, Hb1, [], ⟨rfl, Hmk.out, by simp⟩⟩
 case round =>
  obtain ⟨k, hk, rfl, hb, l, hl⟩ := hrel
  clear Hmk Hb1
  by_cases hlt : k < m
  · obtain ⟨b, off, y, rfl, hblt, hy, c0⟩ := Hk.out.at1 (by rw [Hm.out]; exact hlt)
    have d0 := (hb.out.cell (p := ⟨b, off + k, none⟩) hblt).trans (c0 _ rfl)
    have l0 : b < wr.heap.size := Nat.lt_of_lt_of_le hblt hb.out.size
    have hst := pickR_drop xs cs k y hy
    rw [Hn.out] at hst
    have Hst := Lib.hid hst
    clear hst hy c0 hblt
    by_cases hin : 0 ≤ y ∧ y < n
    · obtain ⟨j, rfl⟩ : ∃ j : Nat, y = j := ⟨y.toNat, by omega⟩
      have hj : j < n := by omega
      obtain ⟨b2, off2, x, rfl, hblt2, hx, e0, e1, e2⟩ := Hs.out.at3 (by rw [Hn.out]; exact hj)
      have d1 := (hb.out.cell (p := ⟨b2, off2 + j * 3, none⟩) hblt2).trans e0
      have d2 := (hb.out.cell (p := ⟨b2, off2 + j * 3 + 1, none⟩) hblt2).trans e1
      have d3 := (hb.out.cell (p := ⟨b2, off2 + j * 3 + 2, none⟩) hblt2).trans e2
      obtain ⟨u0, f0⟩ := hl.out.2.1.all (k * 3) (by omega)
      obtain ⟨u1, f1⟩ := hl.out.2.1.all (k * 3 + 1) (by omega)
      obtain ⟨u2, f2⟩ := hl.out.2.1.all (k * 3 + 2) (by omega)
      have z0 := hl.out.2.1.thaw (k * 3)
      have z1 := hl.out.2.1.thaw (k * 3 + 1)
      have z2 := hl.out.2.1.thaw (k * 3 + 2)
      have hne : w.heap.size ≠ b2 := by omega
      have Hx := Lib.hid hx
      clear e0 e1 e2 hx hin
      go_wp2_with fail
      go_roundw
      case rel =>
       refine ⟨k + 1, by omega, by go_num, ?_, l ++ [x], ?_⟩
       · exact Lib.hid (((hb.out.setCell (Nat.le_refl _) _).setCell (Nat.le_refl _) _).setCell (Nat.le_refl _) _)
       · have := hl.out.2.1.set3 x (by rw [hl.out.1]; exact hlt)
         rw [hl.out.1] at this
         refine Lib.hid ⟨by rw [List.length_append, hl.out.1]; rfl, this, ?_⟩
         rw [hl.out.2.2, Hst.out, if_pos ⟨by omega, by omega⟩, Int.toNat_natCast, Hx.out]
         simp [Function.comp_def]
      case measure => simp [intOf]; omega
    · have hnone : Hid (pickR xs cs = none) := by
       have h2 := Hst.out
       rw [if_neg hin] at h2
       have h3 := hl.out.2.2
       rw [h2] at h3
       exact h3
      clear Hst
      rcases Int.lt_or_le y 0 with hy0 | hy0
      · go_wp2_with fail
        go_ret2
        refine ⟨⟨none, 0, 0, []⟩, false, rfl, hb.out, ⟨rfl, Nat.zero_le _, .inl rfl⟩, ?_, fun b off e => (by cases e), Nat.le_refl _⟩
        unfold pickOk
        rw [hnone.out]
        exact ⟨rfl, rfl⟩
      · have hy1 : (n : Int) ≤ y := by omega
        clear hin
        go_wp2_with fail
        go_ret2
        refine ⟨⟨none, 0, 0, []⟩, false, rfl, hb.out, ⟨rfl, Nat.zero_le _, .inl rfl⟩, ?_, fun b off e => (by cases e), Nat.le_refl _⟩
        unfold pickOk
        rw [hnone.out]
        exact ⟨rfl, rfl⟩
  · obtain rfl : k = m := by omega
    go_wp2_with fail
    go_ret2
    refine ⟨⟨some ⟨w.heap.size, 0, none⟩, k, k, l⟩, true, rfl, hb.out, ⟨hl.out.1, by unfold maxLen; show k ≤ _; omega, hl.out.2.1.slG.sl⟩, ?_, fun b off e => (by cases e; exact ⟨Nat.le_refl _, hl.out.2.1.lt⟩), Nat.le_refl _⟩
    unfold pickOk
    have h3 := hl.out.2.2
    rw [show cs.drop k = [] from List.drop_eq_nil_of_le (by rw [Hm.out]; omega), pickR] at h3
    rw [h3]
    simp
attribute [local go_sem ↓] Go.wp_at_zero Go.wp_at_succ
def pickL (ps : List Int) (b : Bg) : Bg := b.filterMap fun x => (pickR x.1 ps).map fun q => (q, x.2)
def pickP (ps : List Int) (b : Bg) : Bg := if mayBag b && decide (ps.length ≤ 40) then plusR (ones (pickL ps b)) else []
theorem pickL_take {ps : List Int} {b : Bg} {k : Nat} {x : List Val × Int} (h : b[k]? = some x) : pickL ps (b.take (k + 1)) = pickL ps (b.take k) ++ match pickR x.1 ps with | some q => [(q, x.2)] | none => [] := by
 unfold pickL
 rw [List.take_add_one, h, List.filterMap_append]
 congr 1
 show List.filterMap _ [x] = _
 cases hp : pickR x.1 ps with
 | none => simp [hp]
 | some q => simp [hp]
theorem pickL_len (ps : List Int) (b : Bg) : (pickL ps b).length ≤ b.length := List.length_filterMap_le _ _
theorem pick_mem : ∀ {ps : List Int} {xs q : List Val}, pickR xs ps = some q → ∀ v ∈ q, v ∈ xs
 | [], xs, q, h, v, hv => by
   rw [pickR] at h
   cases h
   cases hv
 | p :: ps, xs, q, h, v, hv => by
   rw [pickR] at h
   split at h
   · cases hx : xs[p.toNat]? with
     | none => rw [hx] at h; cases h
     | some y =>
       rw [hx] at h
       simp only at h
       cases hr : pickR xs ps with
       | none => rw [hr] at h; cases h
       | some r =>
         rw [hr] at h
         cases h
         rcases List.mem_cons.1 hv with rfl | hv
         · exact List.mem_of_getElem? hx
         · exact pick_mem hr v hv
   · cases h
set_option maxHeartbeats 4000000 in
theorem qpick_c (x : Vq) (A : Option Addr) (n c : Nat) (cs : List Ct) (w : World) (hx : Vq.In w x) (hA : BgIn w A n cs) (hn : n ≤ 10000) :
 Calls Try.prog 15 #[x.w, .slice A n c] w fun e w' => ∃ A' n' c' os, e = .returned (.slice A' n' c') ∧ Below w.heap.size w w' ∧ BgIn w' A' n' os ∧ pl os = pickP x.ps (pl cs) := by
 have HQ : Hid (Bq (w.alloc (.cells x.cells 28)) w.heap.size x) := Lib.hid (Bq.new w x)
 have HX := Lib.hid hx
 have HA := Lib.hid hA
 clear hA hx
 obtain ⟨nm, fr, wt, o0, o1, eA, en, ec, ee, pA, pn, pc, ps, gr, aA, an, ac⟩ := x
 have Hb0 : Hid (Below w.heap.size w (w.alloc (.cells #[.string nm, .string fr, .string wt, .int .i64 o0, .int .i64 o1, .slice eA en ec, .slice pA pn pc, .bool gr, .slice aA an ac] 28))) := Lib.hid (below_one _ _)
 have Hl0 : Hid (w.heap.size < (w.alloc (.cells #[.string nm, .string fr, .string wt, .int .i64 o0, .int .i64 o1, .slice eA en ec, .slice pA pn pc, .bool gr, .slice aA an ac] 28)).heap.size) := Lib.hid (by simp)
 have HQ1 : Hid (Bq (w.alloc (.cells #[.string nm, .string fr, .string wt, .int .i64 o0, .int .i64 o1, .slice eA en ec, .slice pA pn pc, .bool gr, .slice aA an ac] 28)) w.heap.size ⟨nm, fr, wt, o0, o1, eA, en, ec, ee, pA, pn, pc, ps, gr, aA, an, ac⟩) := HQ
 clear HQ
 dsimp only [Vq.w]
 have Hpl := Lib.hid HX.out.plen
 have hpm := HX.out.pmax
 try simp only at hpm
 unfold maxLen at hpm
 go_enter Try.func15, Try.ntmps15
 go_wp2_with fail
 refine (mayBag_c A n c cs _ (HA.out.after Hb0.out)).mono ?_
 rintro e W ⟨rfl, hb1⟩
 have HbW := Lib.hid (below_via Hb0.out hb1)
 have HQ2 := HQ1.out.below hb1 Hl0.out
 have hlW := Nat.lt_of_lt_of_le Hl0.out hb1.size
 have hq6 := HQ2.pick
 try simp only at hq6
 clear hb1 Hb0 HQ1 Hl0 HQ2
 cases hma : mayBag (pl cs)
 · have HF : Hid (Below w.heap.size w W ∧ BgIn W none 0 [] ∧ pl [] = pickP ps (pl cs)) := Lib.hid ⟨HbW.out, bgIn_nil _, by unfold pickP; rw [hma]; rfl⟩
   clear hma
   go_wp2
   go_ret
   exact ⟨_, _, _, _, rfl, HF.out⟩
 · have Hma := Lib.hid hma
   clear hma
   by_cases h40 : 40 < pn
   · have HF : Hid (Below w.heap.size w W ∧ BgIn W none 0 [] ∧ pl [] = pickP ps (pl cs)) := Lib.hid ⟨HbW.out, bgIn_nil _, by
      unfold pickP
      have h1 : ps.length = pn := Hpl.out
      rw [decide_eq_false (by omega), Bool.and_false]
      rfl⟩
     have h41 : (40 : Int) < pn := by omega
     go_wp2
     go_ret
     exact ⟨_, _, _, _, rfl, HF.out⟩
   · have h41 : ¬ (40 : Int) < pn := by omega
     have h42 : (pn : Int) ≤ 40 := by omega
     go_wp2_with fail
     have HlW := Lib.hid hlW
     have Hq6 := Lib.hid hq6
     clear hlW hq6
     go_loopw [5, 21] (fun v q wr => ∃ (k n' : Nat) (A' : Option Addr) (c' : Nat) (bs : List Bh), k ≤ n ∧ q = .int .i64 k ∧ v = .slice A' n' c' ∧ n' ≤ k ∧ Hid (Below W.heap.size W wr) ∧ Hid (PrsIn wr W.heap.size (.slice A' n' c') bs (pickL ps ((pl cs).take k))) ∧ Hid (bs.length = n')) (fun _ q _ => n - (intOf q).toNat)
     case atStart => exact ⟨0, 0, none, 0, [], Nat.zero_le _, rfl, rfl, Nat.zero_le _, Lib.hid (Below.refl _ _), Lib.hid (PrsIn.nil _ _), Lib.hid rfl⟩
     case round =>
      obtain ⟨k, n', A', c', bs, hk, rfl, rfl, hn', hb, hp, hpn⟩ := hrel
      by_cases hlt : k < n
      · obtain ⟨b, off, rfl⟩ := HA.out.sl.some2 (k := k) (by rw [HA.out.len]; exact hlt)
        obtain ⟨x, hx⟩ : ∃ x, cs[k]? = some x := ⟨_, List.getElem?_eq_getElem (by rw [HA.out.len]; exact hlt)⟩
        obtain ⟨hblt, c0, c1⟩ := (HA.out.after HbW.out).sl.cell2 hx
        have d0 := (hb.out.cell (p := ⟨b, off + k * 2, none⟩) hblt).trans c0
        have d1 := (hb.out.cell (p := ⟨b, off + k * 2 + 1, none⟩) hblt).trans c1
        have l0 : b < wr.heap.size := Nat.lt_of_lt_of_le hblt hb.out.size
        have d6 := (hb.out.cell (p := ⟨w.heap.size, 6, none⟩) HlW.out).trans Hq6.out
        have l6 : w.heap.size < wr.heap.size := Nat.lt_of_lt_of_le HlW.out hb.out.size
        have Hxr := Lib.hid (((HA.out.each x (List.mem_of_getElem? hx)).after HbW.out).after hb.out)
        have HVr := Lib.hid ((HX.out.after HbW.out).after hb.out)
        have Htk := Lib.hid (pickL_take (ps := ps) (pl_at hx))
        clear c0 c1 hx
        obtain ⟨⟨xA, xn, xc, xs⟩, N⟩ := x
        have hgo : (k : Int) < n := by omega
        have Hb1 : Hid (Below wr.heap.size wr (wr.alloc (.cells #[.slice xA xn xc, .int .i64 N] 46))) := Lib.hid (below_one _ _)
        have dg1 : Hid ((wr.alloc (.cells #[.slice xA xn xc, .int .i64 N] 46)).cell? ⟨wr.heap.size, 1, none⟩ = some (.int .i64 N)) := Lib.hid (by simp)
        have lg1 : wr.heap.size < (wr.alloc (.cells #[.slice xA xn xc, .int .i64 N] 46)).heap.size := by simp
        have Hx1 := Lib.hid (Hxr.out.after Hb1.out)
        have HV1 := Lib.hid (HVr.out.after Hb1.out)
        go_wp2_with fail
        refine (pickL_c xA pA xn xc pn pc xs ps _ Hx1.out.hd.len Hx1.out.hd.max Hx1.out.hd.sl HV1.out.plen (by omega) HV1.out.psl).mono ?_
        rintro e w9 ⟨h9, ok, rfl, hb9, hIn9, hok9, hl9, hr9⟩
        have g1 := (hb9.cell (p := ⟨wr.heap.size, 1, none⟩) lg1).trans dg1.out
        have lg9 : wr.heap.size < w9.heap.size := Nat.lt_of_lt_of_le lg1 hb9.size
        have Hb9 := Lib.hid (below_via Hb1.out hb9)
        have HbW9 := Lib.hid (hb.out.trans (Hb9.out.mono hb.out.size))
        have HP9 := Lib.hid (hp.out.after Hb9.out)
        have HU9 : Hid (∀ g, (Value.slice A' n' c').ownBlock = some g → g < wr.heap.size) := Lib.hid fun g hg => (hp.out.own.lt g hg).2
        have Ht2 := Htk.out
        try simp only at Ht2
        unfold pickOk at hok9
        cases hpr : pickR xs ps with
        | none =>
          rw [hpr] at hok9 Ht2
          obtain ⟨rfl, _⟩ := hok9
          simp only [List.append_nil] at Ht2
          have HPf : Hid (PrsIn w9 W.heap.size (.slice A' n' c') bs (pickL ps ((pl cs).take (k + 1)))) := Lib.hid (by rw [Ht2]; exact HP9.out)
          obtain ⟨h9A, h9n, h9c, h9xs⟩ := h9
          dsimp only [Hd.v]
          clear Ht2 Htk hp HP9 hb dg1 Hb1 Hx1 HV1 HVr d0 d1 d6 hb9 hIn9 hl9
          go_wp2_with fail
          go_roundw
          case rel => exact ⟨k + 1, n', A', c', bs, by omega, by go_num, rfl, by omega, HbW9, HPf, hpn⟩
          case measure => simp [intOf]; omega
        | some q =>
          rw [hpr] at hok9 Ht2
          obtain ⟨rfl, hq⟩ := hok9
          simp only at Ht2
          obtain ⟨h9A, h9n, h9c, h9xs⟩ := h9
          have Hq : Hid (h9xs = q) := Lib.hid hq
          have Hqm : Hid (∀ v ∈ q, v ∈ xs) := Lib.hid (pick_mem hpr)
          have HIn9 : Hid (Ct.In w9 ⟨⟨h9A, h9n, h9c, h9xs⟩, N⟩) := Lib.hid ⟨hIn9, fun v hv => Hxr.out.sz v (Hqm.out v (by rw [← Hq.out]; exact hv)), fun v hv => Hxr.out.n64 v (Hqm.out v (by rw [← Hq.out]; exact hv)), Hxr.out.N64, hr9⟩
          have Hl9 : Hid (∀ b off, h9A = some ⟨b, off, none⟩ → wr.heap.size ≤ b ∧ b < w9.heap.size) := Lib.hid fun b off hA => ⟨Nat.le_trans (by simp) (hl9 b off hA).1, (hl9 b off hA).2⟩
          have Ht3 := Lib.hid Ht2
          dsimp only [Hd.v]
          clear Ht2 Htk hp hb dg1 Hb1 Hx1 HV1 HVr d0 d1 d6 hb9 hIn9 hl9 hq
          go_wp2_with fail
          refine (qone_c h9A h9n h9c N _).mono ?_
          rintro e w10 ⟨rfl, rfl⟩
          go_wp2_with (at_builtin; go_must (
           refine wpList_appL bOkQ rfl (.tmp 34) (.tmp 39) rfl W.heap.size (.slice A' n' c') bs [⟨some ⟨w9.heap.size, 0, none⟩, 1, 1, [⟨⟨h9A, h9n, h9c, h9xs⟩, N⟩]⟩] (some ⟨w9.heap.size + 1, 0, none⟩) 1 1 rfl (HP9.out.own.after (below_two _ _ _)) rfl rfl (SlG.newAt (by simp) bOkQ.len [⟨some ⟨w9.heap.size, 0, none⟩, 1, 1, [⟨⟨h9A, h9n, h9c, h9xs⟩, N⟩]⟩] rfl) (by rw [hpn.out]; simp [maxLen]; omega) (by rw [hpn.out]; simp; omega) (by have := HbW9.out.size; simp; omega) ?_
           intro v3 w2 hv hg hloc
           obtain ⟨A3, c3, rfl⟩ := hv.isSlice
           have HX2 := Lib.hid (below_two w9 (.cells #[.slice h9A h9n h9c, .int .i64 N] 46) (.cells #[.slice (some ⟨w9.heap.size, 0, none⟩) 1 1] 30))
           have Hb2 := Lib.hid ((HbW9.out.trans (HX2.out.mono HbW9.out.size)).grown hg (by have := HbW9.out.size; simp; omega) (fun g hg' => (HP9.out.own.lt g hg').1))
           have HSf : Hid (Safe ((w9.alloc (.cells #[.slice h9A h9n h9c, .int .i64 N] 46)).alloc (.cells #[.slice (some ⟨w9.heap.size, 0, none⟩) 1 1] 30)) (Value.slice A' n' c').ownBlock ⟨some ⟨w9.heap.size, 0, none⟩, 1, 1, [⟨⟨h9A, h9n, h9c, h9xs⟩, N⟩]⟩) := Lib.hid (Safe.new ⟨rfl, by unfold maxLen; omega, (SlG.new cOk.len [⟨⟨h9A, h9n, h9c, h9xs⟩, N⟩] rfl).after (below_one _ _), fun c hc => by rw [List.mem_singleton] at hc; subst hc; exact HIn9.out.after HX2.out⟩ (by simp; omega) (fun e => by have := HU9.out _ e; omega) (fun b off hA => ⟨fun e => by have h1 := HU9.out _ e; have h2 := (Hl9.out b off hA).1; omega, by have h2 := (Hl9.out b off hA).2; simp; omega⟩))
           have HP2 := Lib.hid ((HP9.out.after HX2.out).more HSf.out (r := (q, N)) (by show [(h9xs, N)] = [(q, N)]; rw [Hq.out]) rfl hv hg hloc)
           have HLf : Hid ((bs ++ [(⟨some ⟨w9.heap.size, 0, none⟩, 1, 1, [⟨⟨h9A, h9n, h9c, h9xs⟩, N⟩]⟩ : Bh)]).length = n' + 1) := Lib.hid (by rw [List.length_append, hpn.out]; rfl)
           rw [HLf.out] at HP2 ⊢
           clear hv hg hloc HX2))
          have HPf : Hid (PrsIn w2 W.heap.size (.slice A3 (n' + 1) c3) (bs ++ [⟨some ⟨w9.heap.size, 0, none⟩, 1, 1, [⟨⟨h9A, h9n, h9c, h9xs⟩, N⟩]⟩]) (pickL ps ((pl cs).take (k + 1)))) := Lib.hid (by rw [Ht3.out]; exact HP2.out)
          go_roundw
          case rel => exact ⟨k + 1, n' + 1, A3, c3, _, by omega, by go_num, rfl, by omega, Hb2, HPf, HLf⟩
          case measure => simp [intOf]; omega
      · obtain rfl : k = n := by omega
        have hp1 := hp.out
        rw [show (pl cs).take k = pl cs from List.take_of_length_le (by rw [pl_len, HA.out.len]; exact Nat.le_refl _)] at hp1
        obtain ⟨A2, c2, e2, _, _, hs2⟩ := hp1.own.sl bOkQ.len
        injection e2 with e2 e3 e4
        rw [← e2] at hs2
        have hcp := plus_c A' n' c' bs wr hpn.out (by omega) hs2 (fun p hpp => (hp1.safe p hpp).in) (by rw [tot_one bs hp1.one, hpn.out]; omega)
        rw [hp1.map] at hcp
        have Hcp := Lib.hid hcp
        clear hcp hp1 hs2 e2 e3 e4 hp
        go_wp2_with fail
        refine Hcp.out.mono ?_
        rintro e w3 ⟨A3, n3, c3, os, rfl, hb3, hB3, hp3⟩
        have HF : Hid (Below w.heap.size w w3 ∧ BgIn w3 A3 n3 os ∧ pl os = pickP ps (pl cs)) := Lib.hid ⟨below_via (below_via HbW.out hb.out) hb3, hB3, by
         unfold pickP
         have h1 : ps.length = pn := Hpl.out
         have h2 : (mayBag (pl cs) && decide (ps.length ≤ 40)) = true := by rw [Hma.out, decide_eq_true (show ps.length ≤ 40 by omega)]; rfl
         rw [if_pos h2]
         exact hp3⟩
        clear hb3 hB3 hp3
        go_wp2
        go_ret
        exact ⟨_, _, _, _, rfl, HF.out⟩
end Go.Proofs.Ytbpopkgpepmlcaa
namespace Go.Proofs.Ytbpopkgpepmlcaa
open Go Go.RowKit
set_option maxRecDepth 100000
theorem rat_c (A : Option Addr) (n c : Nat) (xs : List Val) (i : Int) (w : World) (hn : xs.length = n) (hs : Sl w A xs) :
 Calls Try.prog 16 #[.slice A n c, .int .i64 i] w fun e w' => e = .returned (atR xs i).v ∧ Below w.heap.size w w' := by
 by_cases h0 : i < 0
 · have e0 : atR xs i = nl := by unfold atR; rw [if_neg (by omega)]
   rw [e0]
   go_enter Try.func16, Try.ntmps16
   go_wp2
   exact ret_val (a := nl) Try.results16 rfl (Bx.new w nl) rfl ⟨rfl, below_one _ _⟩
 · obtain ⟨j, rfl⟩ : ∃ j : Nat, i = j := ⟨i.toNat, by omega⟩
   by_cases h1 : j < n
   · obtain ⟨b, off, x, rfl, hlt, hx, d0, d1, d2⟩ := hs.at3 (k := j) (by omega)
     have e0 : atR xs (j : Int) = x := by unfold atR; rw [if_pos (by omega), Int.toNat_natCast, hx]; rfl
     rw [e0]
     clear e0 hx hs hn
     have h2 : (j : Int) < n := by omega
     go_enter Try.func16, Try.ntmps16
     go_wp2
     exact ret_val (a := x) Try.results16 rfl (Bx.new w x) rfl ⟨rfl, below_one _ _⟩
   · have e0 : atR xs (j : Int) = nl := by unfold atR; rw [if_pos (by omega), Int.toNat_natCast, List.getElem?_eq_none (by omega)]; rfl
     rw [e0]
     clear e0 hs hn
     have h2 : (n : Int) ≤ j := by omega
     go_enter Try.func16, Try.ntmps16
     go_wp2
     exact ret_val (a := nl) Try.results16 rfl (Bx.new w nl) rfl ⟨rfl, below_one _ _⟩
theorem all_dropQ {α : Type} (p : α → Bool) (b : List α) (k : Nat) (x : α) (h : b[k]? = some x) : (b.drop k).all p = (p x && (b.drop (k + 1)).all p) := by
 have h1 := List.drop_eq_getElem_cons (List.getElem?_eq_some_iff.1 h).1
 rw [(List.getElem?_eq_some_iff.1 h).2] at h1
 rw [h1, List.all_cons]
def lowG (b : Bg) : Bool := b.all fun x => !(decide (1000 < x.2) || decide (x.2 < -1000))
def lowQ (b : Bg) : Bool := lowG b && smallB b
theorem lowG_drop (b : Bg) (k : Nat) (x : List Val × Int) (h : b[k]? = some x) : lowG (b.drop k) = (!(decide (1000 < x.2) || decide (x.2 < -1000)) && lowG (b.drop (k + 1))) := all_dropQ _ b k x h
set_option maxHeartbeats 4000000 in
theorem rlow_c (A : Option Addr) (n c : Nat) (cs : List Ct) (w : World) (hB : BgIn w A n cs) :
 Calls Try.prog 9 #[.slice A n c] w fun e w' => e = .returned (.bool (lowQ (pl cs))) ∧ Below w.heap.size w w' := by
 obtain ⟨T, hT⟩ : ∃ T, lowQ (pl cs) = T := ⟨_, rfl⟩
 rw [hT]
 obtain ⟨R, hR⟩ : ∃ R, lowG (pl cs) = R := ⟨_, rfl⟩
 have HR := Lib.hid hR
 have HT : Hid ((R && smallB (pl cs)) = T) := Lib.hid (by rw [← hR, ← hT]; rfl)
 have HB := Lib.hid hB
 have hmx : n ≤ 9223372036854775807 := hB.max
 clear hB hR hT
 go_enter Try.func9, Try.ntmps9
 go_wp2_with fail
 go_loopw [3] (fun i wr => ∃ k : Nat, k ≤ n ∧ i = .int .i64 k ∧ Hid (Below w.heap.size w wr) ∧ Hid (lowG ((pl cs).drop k) = R)) (fun i _ => n - (intOf i).toNat)
 case atStart => exact ⟨0, Nat.zero_le _, rfl, Lib.hid (Below.refl _ _), HR⟩
 case round =>
  obtain ⟨k, hk, rfl, hb, hinv⟩ := hrel
  clear HR
  by_cases hlt : k < n
  · obtain ⟨b, off, rfl⟩ := HB.out.sl.some2 (k := k) (by rw [HB.out.len]; exact hlt)
    obtain ⟨x, hx⟩ : ∃ x, cs[k]? = some x := ⟨_, List.getElem?_eq_getElem (by rw [HB.out.len]; exact hlt)⟩
    obtain ⟨hblt, c0, c1⟩ := HB.out.sl.cell2 hx
    have d1 := (hb.out.cell (p := ⟨b, off + k * 2 + 1, none⟩) hblt).trans c1
    have l0 : b < wr.heap.size := Nat.lt_of_lt_of_le hblt hb.out.size
    have Hst := Lib.hid ((lowG_drop (pl cs) k _ (pl_at hx)).symm.trans hinv.out)
    clear hinv c0 c1 hx hblt
    obtain ⟨⟨xA, xn, xc, xs⟩, N⟩ := x
    simp only [] at d1
    have hgo : (k : Int) < n := by omega
    cases h1 : decide (1000 < N)
    · cases h2 : decide (N < -1000)
      · have Hst2 : Hid (lowG ((pl cs).drop (k + 1)) = R) := by
         have := Hst.out
         simp only [h1, h2, Bool.or_false, Bool.not_false, Bool.true_and] at this
         exact Lib.hid this
        clear Hst
        go_wp2
        go_roundw
        case rel => exact ⟨k + 1, by omega, by go_num, hb, Hst2⟩
        case measure => simp [intOf]; omega
      · obtain rfl : R = false := by
         have := Hst.out
         simp only [h1, h2, Bool.or_true, Bool.not_true, Bool.false_and] at this
         exact this.symm
        clear Hst
        go_wp2
        go_ret
        exact ⟨congrArg (fun z => Ending.returned (Value.bool z)) HT.out, hb.out⟩
    · obtain rfl : R = false := by
       have := Hst.out
       simp only [h1, Bool.true_or, Bool.not_true, Bool.false_and] at this
       exact this.symm
      clear Hst
      go_wp2
      go_ret
      exact ⟨congrArg (fun z => Ending.returned (Value.bool z)) HT.out, hb.out⟩
  · obtain rfl : k = n := by omega
    obtain rfl : R = true := by
     have := hinv.out
     rw [show (pl cs).drop k = [] from List.drop_eq_nil_of_le (by rw [pl_len, HB.out.len]; exact Nat.le_refl _)] at this
     exact this.symm
    clear hinv
    have HS := Lib.hid (smallB_c A k c cs wr (HB.out.after hb.out))
    go_wp2_with fail
    refine HS.out.mono ?_
    rintro e w1 ⟨rfl, hb1⟩
    have Hb1 := Lib.hid (below_via hb.out hb1)
    clear hb1 hb HS
    have HT2 : Hid (smallB (pl cs) = T) := Lib.hid (by rw [← HT.out]; rfl)
    go_wp2
    go_ret
    exact ⟨congrArg (fun z => Ending.returned (Value.bool z)) HT2.out, Hb1.out⟩
attribute [local go_sem ↓] Go.wp_at_zero Go.wp_at_succ
theorem rintQ_c (n : Int) (w : World) : Calls Try.prog 19 #[.int .i64 n] w fun e w' => e = .returned (iv n).v ∧ Below w.heap.size w w' := by
 go_enter Try.func19, Try.ntmps19
 go_wp2
 exact bodyPost_ret (v := (iv n).v) (by simp [results, Try.results19, go_sem, iv]) rfl ⟨rfl, below_one _ _⟩
theorem lone_c (k N : Int) (w : World) (h0 : -9223372036854775808 ≤ k ∧ k ≤ 9223372036854775807) (h1 : -9223372036854775808 ≤ N ∧ N ≤ 9223372036854775807) :
 Calls Try.prog 20 #[.int .i64 k, .int .i64 N] w fun e w' => ∃ A h, e = .returned (.slice A 1 1) ∧ Below w.heap.size w w' ∧ BgIn w' A 1 [⟨h, N⟩] ∧ h.xs = [iv k] := by
 go_enter Try.func20, Try.ntmps20
 go_wp2_with fail
 refine (rintQ_c k _).mono ?_
 rintro e w1 ⟨rfl, hb1⟩
 have Hb := Lib.hid hb1
 have H0 := Lib.hid h0
 have H1 := Lib.hid h1
 clear hb1 h0 h1
 have HF : Hid (Below w.heap.size w ((w1.alloc (.cells #[.int .i64 2, .int .i64 k, .string emp] 48)).alloc (.cells #[.slice (some ⟨w1.heap.size, 0, none⟩) 1 1, .int .i64 N] 46)) ∧ BgIn ((w1.alloc (.cells #[.int .i64 2, .int .i64 k, .string emp] 48)).alloc (.cells #[.slice (some ⟨w1.heap.size, 0, none⟩) 1 1, .int .i64 N] 46)) (some ⟨w1.heap.size + 1, 0, none⟩) 1 [⟨⟨some ⟨w1.heap.size, 0, none⟩, 1, 1, [iv k]⟩, N⟩]) := Lib.hid ⟨below_via Hb.out (below_two _ _ _), rfl, by unfold maxLen; omega, SlG.newAt (by simp) cOk.len [⟨⟨some ⟨w1.heap.size, 0, none⟩, 1, 1, [iv k]⟩, N⟩] rfl, fun c hc => by
  rw [List.mem_singleton] at hc
  subst hc
  refine ⟨⟨rfl, by show 1 ≤ maxLen; unfold maxLen; omega, ((SlG.new vOk.len [iv k] rfl).after (below_one _ _)).sl⟩, fun x hx => ?_, fun x hx => ?_, H1.out, Nat.le_refl _⟩
  · rw [List.mem_singleton] at hx; subst hx; exact Nat.zero_le _
  · rw [List.mem_singleton] at hx; subst hx; exact H0.out⟩
 go_wp2
 go_ret
 exact ⟨_, ⟨some ⟨w1.heap.size, 0, none⟩, 1, 1, [iv k]⟩, rfl, HF.out.1, HF.out.2, rfl⟩
theorem SlN.newQ {w : World} {cs : Array Value} (e : List Nd) (h : cs = (e.flatMap fun x => x.cells.toList).toArray) : SlN (w.alloc (.cells cs 54)) (some ⟨w.heap.size, 0, none⟩) e := by
 have hs := SlG.new (w := w) (E := 54) (S := 5) (rd := fun x : Nd => x.cells.toList) (fun _ => rfl) e h
 rcases hs with h | ⟨b, off, hA, hlt, hc⟩
 · exact .inl h
 · exact .inr ⟨b, off, hA, hlt, fun i x hx => ⟨hc i x hx 0 _ rfl, hc i x hx 1 _ rfl, hc i x hx 2 _ rfl, hc i x hx 3 _ rfl, hc i x hx 4 _ rfl⟩⟩
theorem fix_t : (⟨#[116]⟩ : ByteArray).toList.isEmpty = false := by rw [ByteArray.toList_eq]; rfl
def fixE : List Nd := [⟨0, 0, nl⟩, ⟨1, 0, iv 5⟩, ⟨6, 0, nl⟩]
def fixP : Bg := [([iv 1, iv 1], 6)]
theorem fix_prod : productR false 0 0 [([iv 1], 2)] [([iv 1], 3)] = some fixP := by kernel_rfl
theorem fix_may : mayBag fixP = true := by kernel_rfl
theorem fix_err : errW (trueR fixE) fixP = 0 := by kernel_rfl
theorem fix_where : whereR (trueR fixE) fixP = fixP := by kernel_rfl
theorem fix_may9 : mayBag [([iv 9], 1)] = true := by kernel_rfl
theorem fix_err9 : errW (trueR fixE) [([iv 9], 1)] = 0 := by kernel_rfl
theorem fix_where9 : whereR (trueR fixE) [([iv 9], 1)] = [] := by kernel_rfl
theorem fix_text : bagTR fixP = [40, 49, 44, 32, 49, 41, 42, 54] := by kernel_rfl
theorem fix_pick : pickP [1] fixP = [([iv 1], 6)] := by kernel_rfl
theorem fix_text2 : bagTR [([iv 1], 6)] = [40, 49, 41, 42, 54] := by kernel_rfl
theorem fix_same : sameB fixP fixP = true := by kernel_rfl
structure FixS (w0 : World) (b : Nat) (x : Vq) (w : World) : Prop where
 below : Below w0.heap.size w0 w
 lt : b < w.heap.size
 bq : Bq w b x
 vin : Vq.In w x
theorem FixS.after {w0 w w' : World} {b : Nat} {x : Vq} (h : FixS w0 b x w) (hb : Below w.heap.size w w') : FixS w0 b x w' := ⟨below_via h.below hb, Nat.lt_of_lt_of_le h.lt hb.size, h.bq.below hb h.lt, h.vin.after hb⟩
theorem Bq.all {w : World} {b : Nat} {x : Vq} (h : Bq w b x) : w.cell? ⟨b, 0, none⟩ = some (.string x.name) ∧ w.cell? ⟨b, 1, none⟩ = some (.string x.frm) ∧ w.cell? ⟨b, 2, none⟩ = some (.string x.wth) ∧ w.cell? ⟨b, 3, none⟩ = some (.int .i64 x.on0) ∧ w.cell? ⟨b, 4, none⟩ = some (.int .i64 x.on1) ∧
 w.cell? ⟨b, 5, none⟩ = some (.slice x.eA x.en x.ec) ∧ w.cell? ⟨b, 6, none⟩ = some (.slice x.pA x.pn x.pc) ∧ w.cell? ⟨b, 7, none⟩ = some (.bool x.grp) ∧ w.cell? ⟨b, 8, none⟩ = some (.slice x.aA x.an x.ac) := by
 unfold Bq at h
 refine ⟨?_, ?_, ?_, ?_, ?_, ?_, ?_, ?_, ?_⟩ <;> simp [World.cell?, h, Vq.cells]
end Go.Proofs.Ytbpopkgpepmlcaa
namespace Go.Proofs.Ytbpopkgpepmlcaa
open Go Go.RowKit
set_option maxRecDepth 100000
attribute [local go_sem ↓] Go.wp_at_zero Go.wp_at_succ
set_option maxHeartbeats 8000000 in
theorem qfixed_c (w : World) : Calls Try.prog 8 #[] w fun e w' => e = .returned (.bool true) ∧ Below w.heap.size w w' := by
 go_enter Try.func8, Try.ntmps8
 go_wp2_with fail
 refine (rintQ_c 5 _).mono ?_
 rintro e w1 ⟨rfl, hb1⟩
 go_wp2_with fail
 have HS0 : Hid (FixS w (w1.heap.size + 1) (⟨emp, emp, ⟨#[116]⟩, 0, 0, some ⟨w1.heap.size, 0, none⟩, 3, 3, fixE, some ⟨w.heap.size, 0, none⟩, 1, 1, [1], false, none, 0, 0⟩ : Vq) ((w1.alloc (.cells #[.int .i64 0, .int .i64 0, .int .i64 0, .int .i64 0, .string { data := #[] }, .int .i64 1, .int .i64 0, .int .i64 (iv 5).k, .int .i64 (iv 5).n, .string (iv 5).s, .int .i64 6, .int .i64 0, .int .i64 0, .int .i64 0, .string { data := #[] }] 54)).alloc (.cells #[.string { data := #[] }, .string { data := #[] }, .string { data := #[116] }, .int .i64 0, .int .i64 0, .slice (some { block := w1.heap.size, off := 0 }) 3 3, .slice (some { block := w.heap.size, off := 0 }) 1 1, .bool false, .slice none 0 0] 28))) := Lib.hid ⟨below_via (below_via (below_one _ _) hb1) (below_two _ _ _), by simp, by
  have := Bq.new (w1.alloc (.cells #[.int .i64 0, .int .i64 0, .int .i64 0, .int .i64 0, .string { data := #[] }, .int .i64 1, .int .i64 0, .int .i64 (iv 5).k, .int .i64 (iv 5).n, .string (iv 5).s, .int .i64 6, .int .i64 0, .int .i64 0, .int .i64 0, .string { data := #[] }] 54)) (⟨emp, emp, ⟨#[116]⟩, 0, 0, some ⟨w1.heap.size, 0, none⟩, 3, 3, fixE, some ⟨w.heap.size, 0, none⟩, 1, 1, [1], false, none, 0, 0⟩ : Vq)
  rw [show (w1.alloc (.cells #[.int .i64 0, .int .i64 0, .int .i64 0, .int .i64 0, .string { data := #[] }, .int .i64 1, .int .i64 0, .int .i64 (iv 5).k, .int .i64 (iv 5).n, .string (iv 5).s, .int .i64 6, .int .i64 0, .int .i64 0, .int .i64 0, .string { data := #[] }] 54)).heap.size = w1.heap.size + 1 by simp] at this
  exact this, ⟨rfl, by show 3 ≤ maxLen; unfold maxLen; omega, (SlN.newQ fixE rfl).after (below_one _ _), fun x hx => by
   simp only [fixE, List.mem_cons, List.not_mem_nil, or_false] at hx
   rcases hx with rfl | rfl | rfl <;> exact Nat.zero_le _, rfl, by show 1 ≤ maxLen; unfold maxLen; omega, ((SlG.new (rd := rdI) (fun _ => rfl) [1] rfl).after hb1).after (below_two _ _ _)⟩⟩
 obtain ⟨W, hW⟩ : ∃ W, ((w1.alloc (.cells #[.int .i64 0, .int .i64 0, .int .i64 0, .int .i64 0, .string { data := #[] }, .int .i64 1, .int .i64 0, .int .i64 (iv 5).k, .int .i64 (iv 5).n, .string (iv 5).s, .int .i64 6, .int .i64 0, .int .i64 0, .int .i64 0, .string { data := #[] }] 54)).alloc (.cells #[.string { data := #[] }, .string { data := #[] }, .string { data := #[116] }, .int .i64 0, .int .i64 0, .slice (some { block := w1.heap.size, off := 0 }) 3 3, .slice (some { block := w.heap.size, off := 0 }) 1 1, .bool false, .slice none 0 0] 28)) = W := ⟨_, rfl⟩
 rw [hW] at HS0 ⊢
 clear hW hb1
 obtain ⟨b, hb⟩ : ∃ b, w1.heap.size + 1 = b := ⟨_, rfl⟩
 rw [hb] at HS0 ⊢
 obtain ⟨g, hg⟩ : ∃ g, w1.heap.size = g := ⟨_, rfl⟩
 rw [hg] at HS0 ⊢
 obtain ⟨p, hp⟩ : ∃ p, w.heap.size = p := ⟨_, rfl⟩
 have Hp := Lib.hid hp
 rw [hp] at HS0 ⊢
 clear hb hg hp
 have HbW := Lib.hid HS0.out.below
 have HS : Hid (FixS W b (⟨emp, emp, ⟨#[116]⟩, 0, 0, some ⟨g, 0, none⟩, 3, 3, fixE, some ⟨p, 0, none⟩, 1, 1, [1], false, none, 0, 0⟩ : Vq) W) := Lib.hid ⟨Below.refl _ _, HS0.out.lt, HS0.out.bq, HS0.out.vin⟩
 clear HS0
 obtain ⟨c0, c1, c2, c3, c4, c5, c6, c7, c8⟩ := HS.out.bq.all
 simp only at c0 c1 c2 c3 c4 c5 c6 c7 c8
 have lb := HS.out.lt
 go_region_held3 (fun w' => w'.cell? ⟨b, 0, none⟩ = some (.string emp) ∧ w'.cell? ⟨b, 1, none⟩ = some (.string emp) ∧ w'.cell? ⟨b, 2, none⟩ = some (.string ⟨#[116]⟩) ∧ w'.cell? ⟨b, 3, none⟩ = some (.int .i64 0) ∧ w'.cell? ⟨b, 4, none⟩ = some (.int .i64 0) ∧ w'.cell? ⟨b, 5, none⟩ = some (.slice (some ⟨g, 0, none⟩) 3 3) ∧ w'.cell? ⟨b, 6, none⟩ = some (.slice (some ⟨p, 0, none⟩) 1 1) ∧ w'.cell? ⟨b, 7, none⟩ = some (.bool false) ∧ w'.cell? ⟨b, 8, none⟩ = some (.slice none 0 0)) (first | exact HS.out.bq.all | go_keep)
  (first
    | (go_at_call 20
       with_reducible refine (lone_c 1 2 _ (by decide) (by decide)).mono ?_
       rintro en wa ⟨A1, h1, rfl, hb1, hB1, hx1⟩
       replace HS : Hid (FixS W b (⟨emp, emp, ⟨#[116]⟩, 0, 0, some ⟨g, 0, none⟩, 3, 3, fixE, some ⟨p, 0, none⟩, 1, 1, [1], false, none, 0, 0⟩ : Vq) wa) := Lib.hid (by first | exact HS.out.after hb1 | exact HS.out.after (below_via (Below.refl _ _).drew hb1))
       try replace HB2 : Hid (BgIn wa A2 1 [⟨h2, 3⟩]) := Lib.hid (by first | exact HB2.out.after hb1 | exact HB2.out.after (below_via (Below.refl _ _).drew hb1))
       have HB1 := Lib.hid hB1
       have X1 := Lib.hid hx1
       clear hb1 hB1 hx1)
    | (go_at_call 20
       with_reducible refine (lone_c 1 3 _ (by decide) (by decide)).mono ?_
       rintro en wb ⟨A2, h2, rfl, hb2, hB2, hx2⟩
       replace HS : Hid (FixS W b (⟨emp, emp, ⟨#[116]⟩, 0, 0, some ⟨g, 0, none⟩, 3, 3, fixE, some ⟨p, 0, none⟩, 1, 1, [1], false, none, 0, 0⟩ : Vq) wb) := Lib.hid (by first | exact HS.out.after hb2 | exact HS.out.after (below_via (Below.refl _ _).drew hb2))
       try replace HB1 : Hid (BgIn wb A1 1 [⟨h1, 2⟩]) := Lib.hid (by first | exact HB1.out.after hb2 | exact HB1.out.after (below_via (Below.refl _ _).drew hb2))
       have HB2 := Lib.hid hB2
       have X2 := Lib.hid hx2
       clear hb2 hB2 hx2)
    | (go_at_call 12
       refine (product_c (⟨emp, emp, ⟨#[116]⟩, 0, 0, some ⟨g, 0, none⟩, 3, 3, fixE, some ⟨p, 0, none⟩, 1, 1, [1], false, none, 0, 0⟩ : Vq) A1 A2 1 1 1 1 [⟨h1, 2⟩] [⟨h2, 3⟩] _ (by first | exact HB1.out | exact HB1.out.after (Below.refl _ _).drew) (by first | exact HB2.out | exact HB2.out.after (Below.refl _ _).drew) (by omega) (by omega)).mono ?_
       rintro en w5 ⟨Ap, np, cp, op, er, rfl, hE⟩
       have hE2 := hE.said
       have ep : productR (({ data := #[116] } : ByteArray).toList.isEmpty) 0 0 (pl [⟨h1, 2⟩]) (pl [⟨h2, 3⟩]) = some fixP := by
        rw [fix_t]
        show productR false 0 0 [(h1.xs, 2)] [(h2.xs, 3)] = _
        rw [X1.out, X2.out]
        exact fix_prod
       rw [ep] at hE2
       obtain ⟨rfl, hop⟩ := hE2
       have hb5 := hE.below
       replace HS : Hid (FixS W b (⟨emp, emp, ⟨#[116]⟩, 0, 0, some ⟨g, 0, none⟩, 3, 3, fixE, some ⟨p, 0, none⟩, 1, 1, [1], false, none, 0, 0⟩ : Vq) w5) := Lib.hid (by first | exact HS.out.after hb5 | exact HS.out.after (below_via (Below.refl _ _).drew hb5))
       have BP := Lib.hid hE.bag
       have HP := Lib.hid hop
       clear hE hop ep hb5 HB1 HB2 X1 X2)
)
 all_goals
  clear c0 c1 c2 c3 c4 c5 c6 c7 c8 lb
  obtain ⟨c0, c1, c2, c3, c4, c5, c6, c7, c8⟩ := HS.out.bq.all
  simp only at c0 c1 c2 c3 c4 c5 c6 c7 c8
  have lb := HS.out.lt
  go_wp2_with fail
  refine (where_c (⟨emp, emp, ⟨#[116]⟩, 0, 0, some ⟨g, 0, none⟩, 3, 3, fixE, some ⟨p, 0, none⟩, 1, 1, [1], false, none, 0, 0⟩ : Vq) Ap np cp op w5 HS.out.vin BP.out (by have h1 := BP.out.len; rw [← pl_len, HP.out] at h1; have h2 : 1 = np := h1; omega)).mono ?_
  rintro en w6 ⟨Aw, nw, cw, ow, er, rfl, hW⟩
  have her := hW.er
  have hpw := hW.said
  rw [HP.out, fix_may, if_pos rfl] at her hpw
  have her2 : er = 0 := her.trans fix_err
  have hpw2 : pl ow = fixP := hpw.trans fix_where
  subst her2
  replace HS : Hid (FixS W b (⟨emp, emp, ⟨#[116]⟩, 0, 0, some ⟨g, 0, none⟩, 3, 3, fixE, some ⟨p, 0, none⟩, 1, 1, [1], false, none, 0, 0⟩ : Vq) w6) := Lib.hid (HS.out.after hW.below)
  replace BP := Lib.hid (BP.out.after hW.below)
  have BW := Lib.hid hW.bag
  have HW := Lib.hid hpw2
  clear her hpw hpw2 hW c0 c1 c2 c3 c4 c5 c6 c7 c8 lb
  obtain ⟨c0, c1, c2, c3, c4, c5, c6, c7, c8⟩ := HS.out.bq.all
  simp only at c0 c1 c2 c3 c4 c5 c6 c7 c8
  have lb := HS.out.lt
  go_wp2_with fail
  go_region_held3 (fun w' => w'.cell? ⟨b, 0, none⟩ = some (.string emp) ∧ w'.cell? ⟨b, 1, none⟩ = some (.string emp) ∧ w'.cell? ⟨b, 2, none⟩ = some (.string ⟨#[116]⟩) ∧ w'.cell? ⟨b, 3, none⟩ = some (.int .i64 0) ∧ w'.cell? ⟨b, 4, none⟩ = some (.int .i64 0) ∧ w'.cell? ⟨b, 5, none⟩ = some (.slice (some ⟨g, 0, none⟩) 3 3) ∧ w'.cell? ⟨b, 6, none⟩ = some (.slice (some ⟨p, 0, none⟩) 1 1) ∧ w'.cell? ⟨b, 7, none⟩ = some (.bool false) ∧ w'.cell? ⟨b, 8, none⟩ = some (.slice none 0 0)) (first | exact HS.out.bq.all | go_keep)
   (first
     | (go_at_call 20
        refine (lone_c 9 1 _ (by decide) (by decide)).mono ?_
        rintro en wc ⟨A9, h9, rfl, hb9, hB9, hx9⟩
        replace HS : Hid (FixS W b (⟨emp, emp, ⟨#[116]⟩, 0, 0, some ⟨g, 0, none⟩, 3, 3, fixE, some ⟨p, 0, none⟩, 1, 1, [1], false, none, 0, 0⟩ : Vq) wc) := Lib.hid (by first | exact HS.out.after hb9 | exact HS.out.after (below_via (Below.refl _ _).drew hb9))
        replace BP : Hid (BgIn wc Ap np op) := Lib.hid (by first | exact BP.out.after hb9 | exact BP.out.after (below_via (Below.refl _ _).drew hb9))
        replace BW : Hid (BgIn wc Aw nw ow) := Lib.hid (by first | exact BW.out.after hb9 | exact BW.out.after (below_via (Below.refl _ _).drew hb9))
        have HB9 := Lib.hid hB9
        have X9 := Lib.hid hx9
        clear hb9 hB9 hx9)
     | (go_at_call 14
        refine (where_c (⟨emp, emp, ⟨#[116]⟩, 0, 0, some ⟨g, 0, none⟩, 3, 3, fixE, some ⟨p, 0, none⟩, 1, 1, [1], false, none, 0, 0⟩ : Vq) A9 1 1 [⟨h9, 1⟩] _ (by first | exact HS.out.vin | exact HS.out.vin.after (Below.refl _ _).drew) (by first | exact HB9.out | exact HB9.out.after (Below.refl _ _).drew) (by omega)).mono ?_
        rintro en wd ⟨Ax, nx, cx, ox, er, rfl, hX⟩
        have her := hX.er
        have hpx := hX.said
        rw [show pl [(⟨h9, 1⟩ : Ct)] = [([iv 9], 1)] by show [(h9.xs, (1 : Int))] = _; rw [X9.out], fix_may9, if_pos rfl] at her hpx
        have her2 : er = 0 := her.trans fix_err9
        have hpx2 : pl ox = [] := hpx.trans fix_where9
        subst her2
        have hb5 := hX.below
        replace HS : Hid (FixS W b (⟨emp, emp, ⟨#[116]⟩, 0, 0, some ⟨g, 0, none⟩, 3, 3, fixE, some ⟨p, 0, none⟩, 1, 1, [1], false, none, 0, 0⟩ : Vq) wd) := Lib.hid (by first | exact HS.out.after hb5 | exact HS.out.after (below_via (Below.refl _ _).drew hb5))
        replace BP : Hid (BgIn wd Ap np op) := Lib.hid (by first | exact BP.out.after hb5 | exact BP.out.after (below_via (Below.refl _ _).drew hb5))
        replace BW : Hid (BgIn wd Aw nw ow) := Lib.hid (by first | exact BW.out.after hb5 | exact BW.out.after (below_via (Below.refl _ _).drew hb5))
        have HNx : Hid (nx = 0) := Lib.hid (by have h1 := hX.bag.len; rw [← pl_len, hpx2] at h1; exact h1.symm)
        clear hX her hpx hpx2 hb5 HB9 X9))
  clear c0 c1 c2 c3 c4 c5 c6 c7 c8 lb
  obtain rfl : nx = 0 := HNx.out
  have ht := rtextB_c Ap np cp op wd BP.out (by have h1 := BP.out.len; rw [← pl_len, HP.out] at h1; have h2 : 1 = np := h1; omega) (fun c hc => by
   have h1 : (c.h.xs, c.N) ∈ fixP := by rw [← HP.out]; exact pl_mem hc
   have h2 : c.h.xs = [iv 1, iv 1] := by
    simp only [fixP, List.mem_singleton] at h1
    exact congrArg Prod.fst h1
   refine ⟨by rw [← (BP.out.each c hc).hd.len, h2]; decide, fun x hx => ?_⟩
   rw [h2] at hx
   simp only [List.mem_cons, List.not_mem_nil, or_false] at hx
   rcases hx with rfl | rfl <;> exact Nat.zero_le _)
  rw [HP.out, fix_text] at ht
  have Ht := Lib.hid ht
  clear ht
  go_wp2_with fail
  refine Ht.out.mono ?_
  rintro en we ⟨rfl, hbe⟩
  replace HS := Lib.hid (HS.out.after hbe)
  replace BP := Lib.hid (BP.out.after hbe)
  replace BW := Lib.hid (BW.out.after hbe)
  clear hbe Ht
  have hs := sameB_c Aw Ap nw np cw cp ow op we BW.out BP.out
  rw [HW.out, HP.out, fix_same] at hs
  have Hs := Lib.hid hs
  clear hs
  go_wp2_with fail
  refine Hs.out.mono ?_
  rintro en wf ⟨rfl, hbf⟩
  replace HS : Hid (FixS W b (⟨emp, emp, ⟨#[116]⟩, 0, 0, some ⟨g, 0, none⟩, 3, 3, fixE, some ⟨p, 0, none⟩, 1, 1, [1], false, none, 0, 0⟩ : Vq) wf) := Lib.hid (HS.out.after hbf)
  replace BP := Lib.hid (BP.out.after hbf)
  clear hbf Hs BW
  obtain ⟨c0, c1, c2, c3, c4, c5, c6, c7, c8⟩ := HS.out.bq.all
  simp only at c0 c1 c2 c3 c4 c5 c6 c7 c8
  have lb := HS.out.lt
  go_wp2_with fail
  have hpk := qpick_c (⟨emp, emp, ⟨#[116]⟩, 0, 0, some ⟨g, 0, none⟩, 3, 3, fixE, some ⟨p, 0, none⟩, 1, 1, [1], false, none, 0, 0⟩ : Vq) Ap np cp op wf HS.out.vin BP.out (by have h1 := BP.out.len; rw [← pl_len, HP.out] at h1; have h2 : 1 = np := h1; omega)
  rw [HP.out] at hpk
  have Hpk := Lib.hid hpk
  clear hpk c0 c1 c2 c3 c4 c5 c6 c7 c8 lb
  refine Hpk.out.mono ?_
  rintro en wg ⟨Ak, nk, ck, ok, rfl, hbg, hBg, hpg⟩
  have hpg2 : pl ok = [([iv 1], 6)] := hpg.trans fix_pick
  have HSg := Lib.hid (HS.out.after hbg)
  have BK := Lib.hid hBg
  have HK := Lib.hid hpg2
  clear hbg hBg hpg hpg2 Hpk
  have ht := rtextB_c Ak nk ck ok wg BK.out (by have h1 := BK.out.len; rw [← pl_len, HK.out] at h1; have h2 : 1 = nk := h1; omega) (fun c hc => by
   have h1 : (c.h.xs, c.N) ∈ [([iv 1], (6 : Int))] := by rw [← HK.out]; exact pl_mem hc
   have h2 : c.h.xs = [iv 1] := by
    simp only [List.mem_singleton] at h1
    exact congrArg Prod.fst h1
   refine ⟨by rw [← (BK.out.each c hc).hd.len, h2]; decide, fun x hx => ?_⟩
   rw [h2] at hx
   simp only [List.mem_cons, List.not_mem_nil, or_false] at hx
   rcases hx with rfl; exact Nat.zero_le _)
  rw [HK.out, fix_text2] at ht
  have Ht := Lib.hid ht
  clear ht
  go_wp2_with fail
  refine Ht.out.mono ?_
  rintro en wh ⟨rfl, hbh⟩
  have HF : Hid (Below w.heap.size w wh) := Lib.hid (below_via HbW.out (below_via HSg.out.below hbh))
  clear hbh Ht
  go_wp2
  go_ret
  exact ⟨rfl, HF.out⟩
end Go.Proofs.Ytbpopkgpepmlcaa
namespace Go.Proofs.Ytbpopkgpepmlcaa
open Go Go.RowKit
set_option maxRecDepth 100000
attribute [local go_sem ↓] Go.wp_at_zero Go.wp_at_succ
theorem run_fieldK (w : World) (k n : Int) (s : ByteArray) : (Instr.field 48 (.agg #[.int .i64 k, .int .i64 n, .string s]) 0).run Try.prog w = .ok (.int .i64 k) w := by kernel_rfl
attribute [local go_sem ↓] run_fieldK
end Go.Proofs.Ytbpopkgpepmlcaa
namespace Go.Proofs.Ytbpopkgpepmlcaa
open Go
theorem ones_fold : ∀ (L a : Bg), (ones L).foldl bothB a = bothB a L
 | [], _ => rfl
 | x :: L, a => by
   show (ones L).foldl bothB (bothB a [x]) = bothB (addB a x.1 x.2) L
   rw [ones_fold L]
   rfl
theorem ones_plus (L : Bg) : plusL (ones L) = bothB [] L := ones_fold L []
theorem lowG_bd {b : Bg} (h : lowQ b = true) : Bd 1000 b ∧ b.length ≤ 60 := by
 unfold lowQ lowG smallB at h
 rw [Bool.and_eq_true, Bool.and_eq_true, List.all_eq_true, decide_eq_true_eq] at h
 refine ⟨fun x hx => ?_, h.2.2⟩
 have := h.1 x hx
 simp only [Bool.not_eq_true', Bool.or_eq_false_iff, decide_eq_false_iff_not] at this
 omega
theorem pick_mayR {ps : List Int} {r q : List Val} (h : pickR r ps = some q) (hp : ps.length ≤ 40) (hr : mayR r = true) : mayR q = true := by
 unfold mayR at hr ⊢
 rw [Bool.and_eq_true, decide_eq_true_eq, List.all_eq_true] at hr
 rw [Bool.and_eq_true, decide_eq_true_eq, List.all_eq_true]
 exact ⟨by rw [pick_len ps r q h]; exact hp, fun v hv => hr.2 v (pick_mem h v hv)⟩
theorem pickL_mem {ps : List Int} {b : Bg} {y : List Val × Int} (h : y ∈ pickL ps b) : ∃ x ∈ b, pickR x.1 ps = some y.1 ∧ y.2 = x.2 := by
 unfold pickL at h
 rw [List.mem_filterMap] at h
 obtain ⟨x, hx, h⟩ := h
 cases hp : pickR x.1 ps with
 | none => rw [hp] at h; cases h
 | some q =>
   rw [hp] at h
   cases h
   exact ⟨x, hx, hp, rfl⟩
theorem len_add1 : ∀ (b : Bg) (r : List Val) (n : Int), (addB b r n).length ≤ b.length + 1
 | [], r, n => by rw [addB]; split <;> simp
 | x :: b, r, n => by
   have := len_add1 b r n
   rw [addB]
   repeat' split
   all_goals simp only [List.length_cons]
   all_goals omega
theorem len_both1 : ∀ (b a : Bg), (bothB a b).length ≤ a.length + b.length
 | [], a => Nat.le_refl _
 | x :: b, a => by
   have h1 := len_both1 b (addB a x.1 x.2)
   have h2 := len_add1 a x.1 x.2
   rw [both_cons, List.length_cons]
   omega
theorem picks_len {ps : List Int} {b : Bg} (hl : b.length ≤ 60) : (pickP ps b).length ≤ 60 := by
 unfold pickP
 split
 · unfold plusR
   split
   · rw [ones_plus]
     have h1 := len_both1 (pickL ps b) []
     have h2 := pickL_len ps b
     simp only [List.length_nil] at h1
     omega
   · exact Nat.zero_le _
 · exact Nat.zero_le _
end Go.Proofs.Ytbpopkgpepmlcaa
namespace Go.Proofs.Ytbpopkgpepmlcaa
open Go Go.RowKit
set_option maxRecDepth 100000
theorem sameB_iff : ∀ a b : Bg, sameB a b = true ↔ a = b
 | [], [] => by simp [sameB]
 | [], y :: b => by simp [sameB]
 | x :: a, [] => by simp [sameB]
 | x :: a, y :: b => by
   rw [sameB]
   simp only [Bool.and_eq_true, beq_iff_eq, sameB_iff a b]
   constructor
   · rintro ⟨h1, h2, h3⟩
     rw [h3, show x = y from Prod.ext (cmpL_iff.1 h2) h1]
   · intro h
     injection h with h1 h2
     subst h1 h2
     exact ⟨rfl, cmpL_same _, rfl⟩
theorem sameB_self (a : Bg) : sameB a a = true := (sameB_iff a a).2 rfl
attribute [local go_sem ↓] Go.wp_at_zero Go.wp_at_succ
attribute [local go_sem ↓] run_fieldK run_neV
theorem look_low1 {b : Bg} (h : Bd 1000 b) (r : List Val) : -1000 ≤ lookB b r ∧ lookB b r ≤ 1000 := look_low 1000 (by decide) b r (fun x hx => h x hx)
theorem prod_len {i j : Int} {a b : Bg} : (prodB i j a b).length ≤ (pairL i j a b).length := by
 rw [← plus_pairs, ones_plus]
 have := len_both1 (pairL i j a b) []
 simpa using this
end Go.Proofs.Ytbpopkgpepmlcaa
namespace Go.Proofs.Ytbpopkgpepmlcaa
open Go Go.RowKit
set_option maxRecDepth 100000
attribute [local go_sem ↓] Go.wp_at_zero Go.wp_at_succ
theorem pickP_bd {ps : List Int} {b : Bg} : Bd 1000000000 (pickP ps b) := by
 unfold pickP
 split
 · unfold plusR
   split
   · rename_i h
     rw [Bool.and_eq_true] at h
     intro x hx
     have := okC_parts (may_okC h.2 x hx)
     omega
   · exact fun x hx => by cases hx
 · exact fun x hx => by cases hx
end Go.Proofs.Ytbpopkgpepmlcaa
namespace Go.Proofs.Ytbpopkgpepmlcaa
open Go Go.RowKit
set_option maxRecDepth 100000
attribute [local go_sem ↓] Go.wp_at_zero Go.wp_at_succ
theorem where_may {f : List Val → Bool × Int} {b : Bg} (h : mayBag b = true) : mayBag (whereR f b) = true := by
 unfold whereR
 split
 · exact stay_may _ h
 · rfl
end Go.Proofs.Ytbpopkgpepmlcaa
namespace Go.Proofs.Ytbpopkgpepmlcaa
open Go Go.RowKit
set_option maxRecDepth 100000
theorem ErrSaid.ok {w w' : World} {A : Option Addr} {n : Nat} {os : List Ct} {er : Int} {r : Option Bg} (h : ErrSaid w A n os er r w') (he : er = 0) : r = some (pl os) := by
 have h1 := h.said
 cases r with
 | none => obtain ⟨h2, _⟩ := h1; omega
 | some p => rw [h1.2]
theorem product_may {w : Bool} {i j : Int} {a b p : Bg} (h : productR w i j a b = some p) : mayBag p = true := by
 unfold productR at h
 split at h
 · cases h; rfl
 · next hm =>
   have hm2 : mayBag a = true ∧ mayBag b = true := by simpa using hm
   split at h
   · cases h; exact hm2.1
   · split at h
     · next hp =>
       cases h
       unfold prodOk at hp
       rw [Bool.and_eq_true, Bool.and_eq_true] at hp
       exact hp.2.2
     · cases h
theorem product_len {w : Bool} {i j : Int} {a b p : Bg} (h : productR w i j a b = some p) : p.length ≤ a.length + a.length * b.length := by
 unfold productR at h
 split at h
 · cases h; exact Nat.zero_le _
 · split at h
   · cases h; exact Nat.le_add_right _ _
   · split at h
     · cases h
       have h1 := prod_len (i := i) (j := j) (a := a) (b := b)
       have h2 := pairs_le i j a b
       rw [← pairL_len] at h2
       omega
     · cases h
theorem where_len (f : List Val → Bool × Int) (b : Bg) : (whereR f b).length ≤ b.length := by
 unfold whereR
 split
 · exact List.length_filter_le _ _
 · exact Nat.zero_le _
theorem both_may {a b : Bg} (ha : mayBag a = true) (hb : mayBag b = true) (la : Bd 1000 a) (lb : Bd 1000 b) : mayBag (bothB a b) = true := by
 refine may_of (asc_both _ _ (may_asc ha)) fun x hx => ?_
 have h1 := nz_both b a (may_nz ha) x hx
 have h2 := look_mem _ x (asc_both _ _ (may_asc ha)) hx
 rw [look_both _ _ _ (may_asc ha), sum_look _ _ (may_asc hb)] at h2
 have h3 := look_low1 la x.1
 have h4 := look_low1 lb x.1
 exact okC_of h1 (by omega) (by omega) (key_both (fun r => mayR r = true) b a (fun y hy => (okC_parts (may_okC ha y hy)).2.2.2) (fun y hy => (okC_parts (may_okC hb y hy)).2.2.2) x hx)
theorem both_bd {a b : Bg} (ha : mayBag a = true) (hb : mayBag b = true) (la : Bd 1000 a) (lb : Bd 1000 b) : Bd 2000 (bothB a b) := by
 intro x hx
 have h2 := look_mem _ x (asc_both _ _ (may_asc ha)) hx
 rw [look_both _ _ _ (may_asc ha), sum_look _ _ (may_asc hb)] at h2
 have h3 := look_low1 la x.1
 have h4 := look_low1 lb x.1
 omega
theorem mapB_pickL (ps : List Int) (hp : ps.length ≤ 40) : ∀ b o : Bg, mapB (pickF ps) b o = bothB o (pickL ps b)
 | [], _ => rfl
 | x :: b, o => by
   show mapB (pickF ps) b ((pickF ps x.1).foldl (fun o y => addB o y.1 (y.2 * x.2)) o) = _
   rw [mapB_pickL ps hp b]
   unfold pickL pickF
   rw [List.filterMap_cons]
   cases hq : pickR x.1 ps with
   | none => rfl
   | some q =>
     have hl : q.length ≤ 40 := by rw [pick_len ps x.1 q hq]; exact hp
     dsimp only [Option.map]
     rw [if_pos hl]
     show bothB (addB o q (1 * x.2)) _ = bothB (addB o q x.2) _
     rw [Int.one_mul]
theorem pickP_B {ps : List Int} {b : Bg} (hm : mayBag b = true) (hp : ps.length ≤ 40) (hb : Bd 2000 b) (hl : b.length ≤ 10000) : pickP ps b = pickB ps b := by
 have h1 : Bd 2000 (pickL ps b) := fun y hy => by
  obtain ⟨x, hx, _, e⟩ := pickL_mem hy
  rw [e]
  exact hb x hx
 have h2 : ∀ y ∈ pickL ps b, mayR y.1 = true ∧ y.2 ≠ 0 := fun y hy => by
  obtain ⟨x, hx, hq, e⟩ := pickL_mem hy
  obtain ⟨k1, _, _, k2⟩ := okC_parts (may_okC hm x hx)
  exact ⟨pick_mayR hq hp k2, by rw [e]; exact k1⟩
 have h3 : (pickL ps b).length ≤ 10000 := Nat.le_trans (pickL_len ps b) hl
 have ha : Asc (bothB [] (pickL ps b)) := asc_both _ _ List.Pairwise.nil
 have h4 : mayBag (bothB [] (pickL ps b)) = true := by
  refine may_of ha fun x hx => ?_
  have k1 : x.2 ≠ 0 := nz_both _ [] (fun y hy => by cases hy) x hx
  have k2 := look_mem _ x ha hx
  rw [look_both _ _ _ List.Pairwise.nil] at k2
  have k3 : lookB [] x.1 = 0 := rfl
  have k4 := sum_bd 2000 (by decide) (pickL ps b) x.1 h1
  have k5 := key_both (fun r => mayR r = true) (pickL ps b) [] (fun y hy => by cases hy) (fun y hy => (h2 y hy).1) x hx
  exact okC_of k1 (by omega) (by omega) k5
 unfold pickP plusR pickB
 rw [hm, decide_eq_true hp, ones_plus, h4, all_ones, mapB_pickL ps hp]
 have h5 : (pickL ps b).all okC = true := List.all_eq_true.2 fun x hx => okC_of (h2 x hx).2 (by have := h1 x hx; omega) (by have := h1 x hx; omega) (h2 x hx).1
 rw [h5]
 rfl
theorem bd_up {P Q : Int} {b : Bg} (h : Bd P b) (hPQ : P ≤ Q) : Bd Q b := fun x hx => by have := h x hx; omega
theorem pickP_both (ps : List Int) {a b : Bg} (ha : mayBag a = true) (hb : mayBag b = true) (la : Bd 1000 a) (lb : Bd 1000 b) (na : a.length ≤ 60) (nb : b.length ≤ 60) : pickP ps (bothB a b) = bothB (pickP ps a) (pickP ps b) := by
 by_cases hp : ps.length ≤ 40
 · have hl := len_both1 b a
   rw [pickP_B (both_may ha hb la lb) hp (both_bd ha hb la lb) (by omega), pickP_B ha hp (bd_up la (by decide)) (by omega), pickP_B hb hp (bd_up lb (by decide)) (by omega)]
   exact pick_both ps a b
 · unfold pickP
   rw [decide_eq_false hp]
   simp only [Bool.and_false, Bool.false_eq_true, if_false]
   rfl
theorem pickP_asc (ps : List Int) (b : Bg) : Asc (pickP ps b) := by
 unfold pickP
 split
 · unfold plusR
   split
   · exact asc_plus _
   · exact List.Pairwise.nil
 · exact List.Pairwise.nil
theorem box2 (x : Vq) (v0 v1 v2 : Value) (w : World) : Below w.heap.size w ((w.alloc (.cells x.cells 28)).alloc (.cells #[v0, v1, v2] 32)) ∧
 Bq ((w.alloc (.cells x.cells 28)).alloc (.cells #[v0, v1, v2] 32)) w.heap.size x ∧
 ((w.alloc (.cells x.cells 28)).alloc (.cells #[v0, v1, v2] 32)).heap[w.heap.size + 1]? = some (.cells #[v0, v1, v2] 32 (0, 0)) ∧
 w.heap.size + 1 < ((w.alloc (.cells x.cells 28)).alloc (.cells #[v0, v1, v2] 32)).heap.size := by
 have h1 := below_one w (.cells x.cells 28)
 have h2 := below_one (w.alloc (.cells x.cells 28)) (.cells #[v0, v1, v2] 32)
 have hs : (w.alloc (.cells x.cells 28)).heap.size = w.heap.size + 1 := by simp
 refine ⟨below_via h1 h2, (Bq.new w x).below h2 (by rw [hs]; omega), ?_, ?_⟩
 · have h3 : ∀ (u : World) (o : Obj), (u.alloc o).heap[u.heap.size]? = some o := fun u o => by
    show (u.heap.push _)[u.heap.size]? = _
    simp
   have h4 := h3 (w.alloc (.cells x.cells 28)) (.cells #[v0, v1, v2] 32)
   rw [hs] at h4
   exact h4
 · simp
structure Two (w : World) (b : Nat) (x : Vq) (v0 v1 v2 : Value) : Prop where
 view : Bq w b x
 three : w.heap[b + 1]? = some (.cells #[v0, v1, v2] 32 (0, 0))
 lt : b + 1 < w.heap.size
theorem Two.below {w w' : World} {b : Nat} {x : Vq} {v0 v1 v2 : Value} (h : Two w b x v0 v1 v2) (hb : Below w.heap.size w w') : Two w' b x v0 v1 v2 :=
 ⟨h.view.below hb (by have := h.lt; omega), (hb.block (b + 1) h.lt).trans h.three, Nat.lt_of_lt_of_le h.lt hb.size⟩
theorem Two.t {w : World} {b : Nat} {x : Vq} {v0 v1 v2 : Value} (h : Two w b x v0 v1 v2) : w.cell? ⟨b + 1, 0, none⟩ = some v0 ∧ w.cell? ⟨b + 1, 1, none⟩ = some v1 ∧ w.cell? ⟨b + 1, 2, none⟩ = some v2 := by
 have h3 := h.three
 refine ⟨?_, ?_, ?_⟩ <;> simp [World.cell?, h3]
end Go.Proofs.Ytbpopkgpepmlcaa
