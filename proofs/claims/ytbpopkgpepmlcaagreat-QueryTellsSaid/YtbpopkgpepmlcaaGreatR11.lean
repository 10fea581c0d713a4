/-
  Part 11 of 11 of what the proof leans on: each part below says what it proves, and of what; no condition besides.
-/
import Derived.Test.YtbpopkgpepmlcaaGreatR01
import Derived.Test.YtbpopkgpepmlcaaGreatR02
import Derived.Test.YtbpopkgpepmlcaaGreatR03
import Derived.Test.YtbpopkgpepmlcaaGreatR10
import Derived.Deep.RegionHeld3
import Derived.Deep.DeepCutAuto
import Derived.Test.YtbpopkgpepmlcaaGreatRows
import Derived.ProofKit
import Derived.OpenShut
import Derived.Deep.DeepHandedRow
import Derived.Lib.LaidTab
import Derived.Lib.LaidU8
import Derived.Lib.SmallJoins
import Derived.Deep.Slices
import Derived.Deep.Fields
import Derived.ChangeSame
import Derived.ChangeMaps5
import Derived.Lay
import Derived.Below
set_option linter.unusedVariables false
set_option linter.unusedSimpArgs false
namespace Go.Proofs.YtbpopkgpepmlcaaGreat
open Go Go.RowKit
set_option maxRecDepth 100000
set_option maxHeartbeats 1000000 in
theorem pickL_c (A B : Option Addr) (n c m d : Nat) (xs : List Val) (cs : List Int) (w : World) (hn : xs.length = n) (_hn1 : n ≤ maxLen) (hs : Sl w A xs) (hm : cs.length = m) (hm1 : m ≤ 1000) (hk : SlG w B 1 rdI cs) :
 Calls Tryz.prog 30 #[.slice A n c, .slice B m d] w fun en w' => ∃ (h : Hd) (ok : Bool), en = .returned (.tuple #[h.v, .bool ok]) ∧ Below w.heap.size w w' ∧ Hd.In w' h ∧ pickOk xs cs h ok ∧ (∀ b off, h.A = some ⟨b, off, none⟩ → w.heap.size ≤ b ∧ b < w'.heap.size) ∧ h.n ≤ h.c := by
 unfold maxLen at _hn1
 obtain ⟨cells, hcs, hmk⟩ := make_run vOk m (by omega) (by unfold maxLen; omega)
 have Hs := Lib.hid hs
 have Hn := Lib.hid hn
 have Hm := Lib.hid hm
 have Hk := Lib.hid hk
 have Hcs := Lib.hid hcs
 clear hs hn hm hk hcs
 go_enter Tryz.func30, Tryz.ntmps30
 go_wp2_with fail
 have Hmk : Hid (Mk (w.alloc (.cells cells 46)) w.heap.size 3 m rdV []) := Mk.new w cells _ Hcs.out
 have Hb1 : Hid (Below w.heap.size w (w.alloc (.cells cells 46))) := below_one _ _
 clear hmk Hcs
 go_loopw [14] (fun i wr => ∃ k : Nat, k ≤ m ∧ i = .int .i64 k ∧ Hid (Below w.heap.size w wr) ∧ ∃ l : List Val, Hid (l.length = k ∧ Mk wr w.heap.size 3 m rdV l ∧ pickR xs cs = (pickR xs (cs.drop k)).map (l ++ ·))) (fun i _ => m - (intOf i).toNat)
 case atStart => exact ⟨0, Nat.zero_le _, rfl, Hb1, [], ⟨rfl, Hmk.out, by simp⟩⟩
 case round =>
  obtain ⟨k, hk, rfl, hb, l, hl⟩ := hrel
  clear Hmk Hb1
  by_cases hlt : k < m
  · obtain ⟨b, off, y, rfl, hblt, hy, c0⟩ := Hk.out.at1 (by rw [Hm.out]; exact hlt)
    have d0 := (hb.out.cell (p := ⟨b, off + k, none⟩) hblt).trans (c0 _ rfl)
    have l0 : b < wr.heap.size := Nat.lt_of_lt_of_le hblt hb.out.size
    have hst := pickR_drop xs cs k y hy
    rw [Hn.out] at hst
    have Hst := Lib.hid hst
    clear hst hy c0 hblt
    by_cases hin : 0 ≤ y ∧ y < n
    · obtain ⟨j, rfl⟩ : ∃ j : Nat, y = j := ⟨y.toNat, by omega⟩
      have hj : j < n := by omega
      obtain ⟨b2, off2, x, rfl, hblt2, hx, e0, e1, e2⟩ := Hs.out.at3 (by rw [Hn.out]; exact hj)
      have d1 := (hb.out.cell (p := ⟨b2, off2 + j * 3, none⟩) hblt2).trans e0
      have d2 := (hb.out.cell (p := ⟨b2, off2 + j * 3 + 1, none⟩) hblt2).trans e1
      have d3 := (hb.out.cell (p := ⟨b2, off2 + j * 3 + 2, none⟩) hblt2).trans e2
      obtain ⟨u0, f0⟩ := hl.out.2.1.all (k * 3) (by omega)
      obtain ⟨u1, f1⟩ := hl.out.2.1.all (k * 3 + 1) (by omega)
      obtain ⟨u2, f2⟩ := hl.out.2.1.all (k * 3 + 2) (by omega)
      have z0 := hl.out.2.1.thaw (k * 3)
      have z1 := hl.out.2.1.thaw (k * 3 + 1)
      have z2 := hl.out.2.1.thaw (k * 3 + 2)
      have hne : w.heap.size ≠ b2 := by omega
      have Hx := Lib.hid hx
      clear e0 e1 e2 hx hin
      go_wp2_with fail
      go_roundw
      case rel =>
       refine ⟨k + 1, by omega, by go_num, ?_, l ++ [x], ?_⟩
       · exact Lib.hid (((hb.out.setCell (Nat.le_refl _) _).setCell (Nat.le_refl _) _).setCell (Nat.le_refl _) _)
       · have := hl.out.2.1.set3 x (by rw [hl.out.1]; exact hlt)
         rw [hl.out.1] at this
         refine Lib.hid ⟨by rw [List.length_append, hl.out.1]; rfl, this, ?_⟩
         rw [hl.out.2.2, Hst.out, if_pos ⟨by omega, by omega⟩, Int.toNat_natCast, Hx.out]
         simp [Function.comp_def]
      case measure => simp [intOf]; omega
    · have hnone : Hid (pickR xs cs = none) := by
       have h2 := Hst.out
       rw [if_neg hin] at h2
       have h3 := hl.out.2.2
       rw [h2] at h3
       exact h3
      clear Hst
      rcases Int.lt_or_le y 0 with hy0 | hy0
      · go_wp2_with fail
        go_ret2
        refine ⟨⟨none, 0, 0, []⟩, false, rfl, hb.out, ⟨rfl, Nat.zero_le _, .inl rfl⟩, ?_, fun b off e => (by cases e), Nat.le_refl _⟩
        unfold pickOk
        rw [hnone.out]
        exact ⟨rfl, rfl⟩
      · have hy1 : (n : Int) ≤ y := by omega
        clear hin
        go_wp2_with fail
        go_ret2
        refine ⟨⟨none, 0, 0, []⟩, false, rfl, hb.out, ⟨rfl, Nat.zero_le _, .inl rfl⟩, ?_, fun b off e => (by cases e), Nat.le_refl _⟩
        unfold pickOk
        rw [hnone.out]
        exact ⟨rfl, rfl⟩
  · obtain rfl : k = m := by omega
    go_wp2_with fail
    go_ret2
    refine ⟨⟨some ⟨w.heap.size, 0, none⟩, k, k, l⟩, true, rfl, hb.out, ⟨hl.out.1, by unfold maxLen; show k ≤ _; omega, hl.out.2.1.slG.sl⟩, ?_, fun b off e => (by cases e; exact ⟨Nat.le_refl _, hl.out.2.1.lt⟩), Nat.le_refl _⟩
    unfold pickOk
    have h3 := hl.out.2.2
    rw [show cs.drop k = [] from List.drop_eq_nil_of_le (by rw [Hm.out]; omega), pickR] at h3
    rw [h3]
    simp
attribute [local go_sem ↓] Go.wp_at_zero Go.wp_at_succ
def pickL (ps : List Int) (b : Bg) : Bg := b.filterMap fun x => (pickR x.1 ps).map fun q => (q, x.2)
def pickP (ps : List Int) (b : Bg) : Bg := if mayBag b && decide (ps.length ≤ 40) then plusR (ones (pickL ps b)) else []
theorem pickL_take {ps : List Int} {b : Bg} {k : Nat} {x : List Val × Int} (h : b[k]? = some x) : pickL ps (b.take (k + 1)) = pickL ps (b.take k) ++ match pickR x.1 ps with | some q => [(q, x.2)] | none => [] := by
 unfold pickL
 rw [List.take_add_one, h, List.filterMap_append]
 congr 1
 show List.filterMap _ [x] = _
 cases hp : pickR x.1 ps with
 | none => simp [hp]
 | some q => simp [hp]
theorem pickL_len (ps : List Int) (b : Bg) : (pickL ps b).length ≤ b.length := List.length_filterMap_le _ _
theorem pick_mem : ∀ {ps : List Int} {xs q : List Val}, pickR xs ps = some q → ∀ v ∈ q, v ∈ xs
 | [], xs, q, h, v, hv => by
   rw [pickR] at h
   cases h
   cases hv
 | p :: ps, xs, q, h, v, hv => by
   rw [pickR] at h
   split at h
   · cases hx : xs[p.toNat]? with
     | none => rw [hx] at h; cases h
     | some y =>
       rw [hx] at h
       simp only at h
       cases hr : pickR xs ps with
       | none => rw [hr] at h; cases h
       | some r =>
         rw [hr] at h
         cases h
         rcases List.mem_cons.1 hv with rfl | hv
         · exact List.mem_of_getElem? hx
         · exact pick_mem hr v hv
   · cases h
set_option maxHeartbeats 4000000 in
theorem qpick_c (x : Vq) (A : Option Addr) (n c : Nat) (cs : List Ct) (w : World) (hx : Vq.In w x) (hA : BgIn w A n cs) (hn : n ≤ 10000) :
 Calls Tryz.prog 11 #[x.w, .slice A n c] w fun e w' => ∃ A' n' c' os, e = .returned (.slice A' n' c') ∧ Below w.heap.size w w' ∧ BgIn w' A' n' os ∧ pl os = pickP x.ps (pl cs) := by
 have HQ : Hid (Bq (w.alloc (.cells x.cells 28)) w.heap.size x) := Lib.hid (Bq.new w x)
 have HX := Lib.hid hx
 have HA := Lib.hid hA
 clear hA hx
 obtain ⟨nm, fr, wt, o0, o1, eA, en, ec, ee, pA, pn, pc, ps, gr, aA, an, ac⟩ := x
 have Hb0 : Hid (Below w.heap.size w (w.alloc (.cells #[.string nm, .string fr, .string wt, .int .i64 o0, .int .i64 o1, .slice eA en ec, .slice pA pn pc, .bool gr, .slice aA an ac] 28))) := Lib.hid (below_one _ _)
 have Hl0 : Hid (w.heap.size < (w.alloc (.cells #[.string nm, .string fr, .string wt, .int .i64 o0, .int .i64 o1, .slice eA en ec, .slice pA pn pc, .bool gr, .slice aA an ac] 28)).heap.size) := Lib.hid (by simp)
 have HQ1 : Hid (Bq (w.alloc (.cells #[.string nm, .string fr, .string wt, .int .i64 o0, .int .i64 o1, .slice eA en ec, .slice pA pn pc, .bool gr, .slice aA an ac] 28)) w.heap.size ⟨nm, fr, wt, o0, o1, eA, en, ec, ee, pA, pn, pc, ps, gr, aA, an, ac⟩) := HQ
 clear HQ
 dsimp only [Vq.w]
 have Hpl := Lib.hid HX.out.plen
 have hpm := HX.out.pmax
 try simp only at hpm
 unfold maxLen at hpm
 go_enter Tryz.func11, Tryz.ntmps11
 go_wp2_with fail
 refine (mayBag_c A n c cs _ (HA.out.after Hb0.out)).mono ?_
 rintro e W ⟨rfl, hb1⟩
 have HbW := Lib.hid (below_via Hb0.out hb1)
 have HQ2 := HQ1.out.below hb1 Hl0.out
 have hlW := Nat.lt_of_lt_of_le Hl0.out hb1.size
 have hq6 := HQ2.pick
 try simp only at hq6
 clear hb1 Hb0 HQ1 Hl0 HQ2
 cases hma : mayBag (pl cs)
 · have HF : Hid (Below w.heap.size w W ∧ BgIn W none 0 [] ∧ pl [] = pickP ps (pl cs)) := Lib.hid ⟨HbW.out, bgIn_nil _, by unfold pickP; rw [hma]; rfl⟩
   clear hma
   go_wp2
   go_ret
   exact ⟨_, _, _, _, rfl, HF.out⟩
 · have Hma := Lib.hid hma
   clear hma
   by_cases h40 : 40 < pn
   · have HF : Hid (Below w.heap.size w W ∧ BgIn W none 0 [] ∧ pl [] = pickP ps (pl cs)) := Lib.hid ⟨HbW.out, bgIn_nil _, by
      unfold pickP
      have h1 : ps.length = pn := Hpl.out
      rw [decide_eq_false (by omega), Bool.and_false]
      rfl⟩
     have h41 : (40 : Int) < pn := by omega
     go_wp2
     go_ret
     exact ⟨_, _, _, _, rfl, HF.out⟩
   · have h41 : ¬ (40 : Int) < pn := by omega
     have h42 : (pn : Int) ≤ 40 := by omega
     go_wp2_with fail
     have HlW := Lib.hid hlW
     have Hq6 := Lib.hid hq6
     clear hlW hq6
     go_loopw [5, 21] (fun v q wr => ∃ (k n' : Nat) (A' : Option Addr) (c' : Nat) (bs : List Bh), k ≤ n ∧ q = .int .i64 k ∧ v = .slice A' n' c' ∧ n' ≤ k ∧ Hid (Below W.heap.size W wr) ∧ Hid (PrsIn wr W.heap.size (.slice A' n' c') bs (pickL ps ((pl cs).take k))) ∧ Hid (bs.length = n')) (fun _ q _ => n - (intOf q).toNat)
     case atStart => exact ⟨0, 0, none, 0, [], Nat.zero_le _, rfl, rfl, Nat.zero_le _, Lib.hid (Below.refl _ _), Lib.hid (PrsIn.nil _ _), Lib.hid rfl⟩
     case round =>
      obtain ⟨k, n', A', c', bs, hk, rfl, rfl, hn', hb, hp, hpn⟩ := hrel
      by_cases hlt : k < n
      · obtain ⟨b, off, rfl⟩ := HA.out.sl.some2 (k := k) (by rw [HA.out.len]; exact hlt)
        obtain ⟨x, hx⟩ : ∃ x, cs[k]? = some x := ⟨_, List.getElem?_eq_getElem (by rw [HA.out.len]; exact hlt)⟩
        obtain ⟨hblt, c0, c1⟩ := (HA.out.after HbW.out).sl.cell2 hx
        have d0 := (hb.out.cell (p := ⟨b, off + k * 2, none⟩) hblt).trans c0
        have d1 := (hb.out.cell (p := ⟨b, off + k * 2 + 1, none⟩) hblt).trans c1
        have l0 : b < wr.heap.size := Nat.lt_of_lt_of_le hblt hb.out.size
        have d6 := (hb.out.cell (p := ⟨w.heap.size, 6, none⟩) HlW.out).trans Hq6.out
        have l6 : w.heap.size < wr.heap.size := Nat.lt_of_lt_of_le HlW.out hb.out.size
        have Hxr := Lib.hid (((HA.out.each x (List.mem_of_getElem? hx)).after HbW.out).after hb.out)
        have HVr := Lib.hid ((HX.out.after HbW.out).after hb.out)
        have Htk := Lib.hid (pickL_take (ps := ps) (pl_at hx))
        clear c0 c1 hx
        obtain ⟨⟨xA, xn, xc, xs⟩, N⟩ := x
        have hgo : (k : Int) < n := by omega
        have Hb1 : Hid (Below wr.heap.size wr (wr.alloc (.cells #[.slice xA xn xc, .int .i64 N] 44))) := Lib.hid (below_one _ _)
        have dg1 : Hid ((wr.alloc (.cells #[.slice xA xn xc, .int .i64 N] 44)).cell? ⟨wr.heap.size, 1, none⟩ = some (.int .i64 N)) := Lib.hid (by simp)
        have lg1 : wr.heap.size < (wr.alloc (.cells #[.slice xA xn xc, .int .i64 N] 44)).heap.size := by simp
        have Hx1 := Lib.hid (Hxr.out.after Hb1.out)
        have HV1 := Lib.hid (HVr.out.after Hb1.out)
        go_wp2_with fail
        refine (pickL_c xA pA xn xc pn pc xs ps _ Hx1.out.hd.len Hx1.out.hd.max Hx1.out.hd.sl HV1.out.plen (by omega) HV1.out.psl).mono ?_
        rintro e w9 ⟨h9, ok, rfl, hb9, hIn9, hok9, hl9, hr9⟩
        have g1 := (hb9.cell (p := ⟨wr.heap.size, 1, none⟩) lg1).trans dg1.out
        have lg9 : wr.heap.size < w9.heap.size := Nat.lt_of_lt_of_le lg1 hb9.size
        have Hb9 := Lib.hid (below_via Hb1.out hb9)
        have HbW9 := Lib.hid (hb.out.trans (Hb9.out.mono hb.out.size))
        have HP9 := Lib.hid (hp.out.after Hb9.out)
        have HU9 : Hid (∀ g, (Value.slice A' n' c').ownBlock = some g → g < wr.heap.size) := Lib.hid fun g hg => (hp.out.own.lt g hg).2
        have Ht2 := Htk.out
        try simp only at Ht2
        unfold pickOk at hok9
        cases hpr : pickR xs ps with
        | none =>
          rw [hpr] at hok9 Ht2
          obtain ⟨rfl, _⟩ := hok9
          simp only [List.append_nil] at Ht2
          have HPf : Hid (PrsIn w9 W.heap.size (.slice A' n' c') bs (pickL ps ((pl cs).take (k + 1)))) := Lib.hid (by rw [Ht2]; exact HP9.out)
          obtain ⟨h9A, h9n, h9c, h9xs⟩ := h9
          dsimp only [Hd.v]
          clear Ht2 Htk hp HP9 hb dg1 Hb1 Hx1 HV1 HVr d0 d1 d6 hb9 hIn9 hl9
          go_wp2_with fail
          go_roundw
          case rel => exact ⟨k + 1, n', A', c', bs, by omega, by go_num, rfl, by omega, HbW9, HPf, hpn⟩
          case measure => simp [intOf]; omega
        | some q =>
          rw [hpr] at hok9 Ht2
          obtain ⟨rfl, hq⟩ := hok9
          simp only at Ht2
          obtain ⟨h9A, h9n, h9c, h9xs⟩ := h9
          have Hq : Hid (h9xs = q) := Lib.hid hq
          have Hqm : Hid (∀ v ∈ q, v ∈ xs) := Lib.hid (pick_mem hpr)
          have HIn9 : Hid (Ct.In w9 ⟨⟨h9A, h9n, h9c, h9xs⟩, N⟩) := Lib.hid ⟨hIn9, fun v hv => Hxr.out.sz v (Hqm.out v (by rw [← Hq.out]; exact hv)), fun v hv => Hxr.out.n64 v (Hqm.out v (by rw [← Hq.out]; exact hv)), Hxr.out.N64, hr9⟩
          have Hl9 : Hid (∀ b off, h9A = some ⟨b, off, none⟩ → wr.heap.size ≤ b ∧ b < w9.heap.size) := Lib.hid fun b off hA => ⟨Nat.le_trans (by simp) (hl9 b off hA).1, (hl9 b off hA).2⟩
          have Ht3 := Lib.hid Ht2
          dsimp only [Hd.v]
          clear Ht2 Htk hp hb dg1 Hb1 Hx1 HV1 HVr d0 d1 d6 hb9 hIn9 hl9 hq
          go_wp2_with fail
          refine (qone_c h9A h9n h9c N _).mono ?_
          rintro e w10 ⟨rfl, rfl⟩
          go_wp2_with (at_builtin; go_must (
           refine wpList_appL bOkQ rfl (.tmp 34) (.tmp 39) rfl W.heap.size (.slice A' n' c') bs [⟨some ⟨w9.heap.size, 0, none⟩, 1, 1, [⟨⟨h9A, h9n, h9c, h9xs⟩, N⟩]⟩] (some ⟨w9.heap.size + 1, 0, none⟩) 1 1 rfl (HP9.out.own.after (below_two _ _ _)) rfl rfl (SlG.newAt (by simp) bOkQ.len [⟨some ⟨w9.heap.size, 0, none⟩, 1, 1, [⟨⟨h9A, h9n, h9c, h9xs⟩, N⟩]⟩] rfl) (by rw [hpn.out]; simp [maxLen]; omega) (by rw [hpn.out]; simp; omega) (by have := HbW9.out.size; simp; omega) ?_
           intro v3 w2 hv hg hloc
           obtain ⟨A3, c3, rfl⟩ := hv.isSlice
           have HX2 := Lib.hid (below_two w9 (.cells #[.slice h9A h9n h9c, .int .i64 N] 44) (.cells #[.slice (some ⟨w9.heap.size, 0, none⟩) 1 1] 30))
           have Hb2 := Lib.hid ((HbW9.out.trans (HX2.out.mono HbW9.out.size)).grown hg (by have := HbW9.out.size; simp; omega) (fun g hg' => (HP9.out.own.lt g hg').1))
           have HSf : Hid (Safe ((w9.alloc (.cells #[.slice h9A h9n h9c, .int .i64 N] 44)).alloc (.cells #[.slice (some ⟨w9.heap.size, 0, none⟩) 1 1] 30)) (Value.slice A' n' c').ownBlock ⟨some ⟨w9.heap.size, 0, none⟩, 1, 1, [⟨⟨h9A, h9n, h9c, h9xs⟩, N⟩]⟩) := Lib.hid (Safe.new ⟨rfl, by unfold maxLen; omega, (SlG.new cOk.len [⟨⟨h9A, h9n, h9c, h9xs⟩, N⟩] rfl).after (below_one _ _), fun c hc => by rw [List.mem_singleton] at hc; subst hc; exact HIn9.out.after HX2.out⟩ (by simp; omega) (fun e => by have := HU9.out _ e; omega) (fun b off hA => ⟨fun e => by have h1 := HU9.out _ e; have h2 := (Hl9.out b off hA).1; omega, by have h2 := (Hl9.out b off hA).2; simp; omega⟩))
           have HP2 := Lib.hid ((HP9.out.after HX2.out).more HSf.out (r := (q, N)) (by show [(h9xs, N)] = [(q, N)]; rw [Hq.out]) rfl hv hg hloc)
           have HLf : Hid ((bs ++ [(⟨some ⟨w9.heap.size, 0, none⟩, 1, 1, [⟨⟨h9A, h9n, h9c, h9xs⟩, N⟩]⟩ : Bh)]).length = n' + 1) := Lib.hid (by rw [List.length_append, hpn.out]; rfl)
           rw [HLf.out] at HP2 ⊢
           clear hv hg hloc HX2))
          have HPf : Hid (PrsIn w2 W.heap.size (.slice A3 (n' + 1) c3) (bs ++ [⟨some ⟨w9.heap.size, 0, none⟩, 1, 1, [⟨⟨h9A, h9n, h9c, h9xs⟩, N⟩]⟩]) (pickL ps ((pl cs).take (k + 1)))) := Lib.hid (by rw [Ht3.out]; exact HP2.out)
          go_roundw
          case rel => exact ⟨k + 1, n' + 1, A3, c3, _, by omega, by go_num, rfl, by omega, Hb2, HPf, HLf⟩
          case measure => simp [intOf]; omega
      · obtain rfl : k = n := by omega
        have hp1 := hp.out
        rw [show (pl cs).take k = pl cs from List.take_of_length_le (by rw [pl_len, HA.out.len]; exact Nat.le_refl _)] at hp1
        obtain ⟨A2, c2, e2, _, _, hs2⟩ := hp1.own.sl bOkQ.len
        injection e2 with e2 e3 e4
        rw [← e2] at hs2
        have hcp := plus_c A' n' c' bs wr hpn.out (by omega) hs2 (fun p hpp => (hp1.safe p hpp).in) (by rw [tot_one bs hp1.one, hpn.out]; omega)
        rw [hp1.map] at hcp
        have Hcp := Lib.hid hcp
        clear hcp hp1 hs2 e2 e3 e4 hp
        go_wp2_with fail
        refine Hcp.out.mono ?_
        rintro e w3 ⟨A3, n3, c3, os, rfl, hb3, hB3, hp3⟩
        have HF : Hid (Below w.heap.size w w3 ∧ BgIn w3 A3 n3 os ∧ pl os = pickP ps (pl cs)) := Lib.hid ⟨below_via (below_via HbW.out hb.out) hb3, hB3, by
         unfold pickP
         have h1 : ps.length = pn := Hpl.out
         have h2 : (mayBag (pl cs) && decide (ps.length ≤ 40)) = true := by rw [Hma.out, decide_eq_true (show ps.length ≤ 40 by omega)]; rfl
         rw [if_pos h2]
         exact hp3⟩
        clear hb3 hB3 hp3
        go_wp2
        go_ret
        exact ⟨_, _, _, _, rfl, HF.out⟩
end Go.Proofs.YtbpopkgpepmlcaaGreat
namespace Go.Proofs.YtbpopkgpepmlcaaGreat
open Go Go.RowKit
set_option maxRecDepth 100000
theorem rat_c (A : Option Addr) (n c : Nat) (xs : List Val) (i : Int) (w : World) (hn : xs.length = n) (hs : Sl w A xs) :
 Calls Tryz.prog 45 #[.slice A n c, .int .i64 i] w fun e w' => e = .returned (atR xs i).v ∧ Below w.heap.size w w' := by
 by_cases h0 : i < 0
 · have e0 : atR xs i = nl := by unfold atR; rw [if_neg (by omega)]
   rw [e0]
   go_enter Tryz.func45, Tryz.ntmps45
   go_wp2
   exact ret_val (a := nl) Tryz.results45 rfl (Bx.new w nl) rfl ⟨rfl, below_one _ _⟩
 · obtain ⟨j, rfl⟩ : ∃ j : Nat, i = j := ⟨i.toNat, by omega⟩
   by_cases h1 : j < n
   · obtain ⟨b, off, x, rfl, hlt, hx, d0, d1, d2⟩ := hs.at3 (k := j) (by omega)
     have e0 : atR xs (j : Int) = x := by unfold atR; rw [if_pos (by omega), Int.toNat_natCast, hx]; rfl
     rw [e0]
     clear e0 hx hs hn
     have h2 : (j : Int) < n := by omega
     go_enter Tryz.func45, Tryz.ntmps45
     go_wp2
     exact ret_val (a := x) Tryz.results45 rfl (Bx.new w x) rfl ⟨rfl, below_one _ _⟩
   · have e0 : atR xs (j : Int) = nl := by unfold atR; rw [if_pos (by omega), Int.toNat_natCast, List.getElem?_eq_none (by omega)]; rfl
     rw [e0]
     clear e0 hs hn
     have h2 : (n : Int) ≤ j := by omega
     go_enter Tryz.func45, Tryz.ntmps45
     go_wp2
     exact ret_val (a := nl) Tryz.results45 rfl (Bx.new w nl) rfl ⟨rfl, below_one _ _⟩
def lowG (b : Bg) : Bool := b.all fun x => !(decide (1000 < x.2) || decide (x.2 < -1000))
def lowQ (b : Bg) : Bool := lowG b && smallB b
attribute [local go_sem ↓] Go.wp_at_zero Go.wp_at_succ
theorem rintQ_c (n : Int) (w : World) : Calls Tryz.prog 14 #[.int .i64 n] w fun e w' => e = .returned (iv n).v ∧ Below w.heap.size w w' := by
 go_enter Tryz.func14, Tryz.ntmps14
 go_wp2
 exact bodyPost_ret (v := (iv n).v) (by simp [results, Tryz.results14, go_sem, iv]) rfl ⟨rfl, below_one _ _⟩
theorem lone_c (k N : Int) (w : World) (h0 : -9223372036854775808 ≤ k ∧ k ≤ 9223372036854775807) (h1 : -9223372036854775808 ≤ N ∧ N ≤ 9223372036854775807) :
 Calls Tryz.prog 15 #[.int .i64 k, .int .i64 N] w fun e w' => ∃ A h, e = .returned (.slice A 1 1) ∧ Below w.heap.size w w' ∧ BgIn w' A 1 [⟨h, N⟩] ∧ h.xs = [iv k] := by
 go_enter Tryz.func15, Tryz.ntmps15
 go_wp2_with fail
 refine (rintQ_c k _).mono ?_
 rintro e w1 ⟨rfl, hb1⟩
 have Hb := Lib.hid hb1
 have H0 := Lib.hid h0
 have H1 := Lib.hid h1
 clear hb1 h0 h1
 have HF : Hid (Below w.heap.size w ((w1.alloc (.cells #[.int .i64 2, .int .i64 k, .string emp] 46)).alloc (.cells #[.slice (some ⟨w1.heap.size, 0, none⟩) 1 1, .int .i64 N] 44)) ∧ BgIn ((w1.alloc (.cells #[.int .i64 2, .int .i64 k, .string emp] 46)).alloc (.cells #[.slice (some ⟨w1.heap.size, 0, none⟩) 1 1, .int .i64 N] 44)) (some ⟨w1.heap.size + 1, 0, none⟩) 1 [⟨⟨some ⟨w1.heap.size, 0, none⟩, 1, 1, [iv k]⟩, N⟩]) := Lib.hid ⟨below_via Hb.out (below_two _ _ _), rfl, by unfold maxLen; omega, SlG.newAt (by simp) cOk.len [⟨⟨some ⟨w1.heap.size, 0, none⟩, 1, 1, [iv k]⟩, N⟩] rfl, fun c hc => by
  rw [List.mem_singleton] at hc
  subst hc
  refine ⟨⟨rfl, by show 1 ≤ maxLen; unfold maxLen; omega, ((SlG.new vOk.len [iv k] rfl).after (below_one _ _)).sl⟩, fun x hx => ?_, fun x hx => ?_, H1.out, Nat.le_refl _⟩
  · rw [List.mem_singleton] at hx; subst hx; exact Nat.zero_le _
  · rw [List.mem_singleton] at hx; subst hx; exact H0.out⟩
 go_wp2
 go_ret
 exact ⟨_, ⟨some ⟨w1.heap.size, 0, none⟩, 1, 1, [iv k]⟩, rfl, HF.out.1, HF.out.2, rfl⟩
theorem SlN.newQ {w : World} {cs : Array Value} (e : List Nd) (h : cs = (e.flatMap fun x => x.cells.toList).toArray) : SlN (w.alloc (.cells cs 48)) (some ⟨w.heap.size, 0, none⟩) e := by
 have hs := SlG.new (w := w) (E := 48) (S := 5) (rd := fun x : Nd => x.cells.toList) (fun _ => rfl) e h
 rcases hs with h | ⟨b, off, hA, hlt, hc⟩
 · exact .inl h
 · exact .inr ⟨b, off, hA, hlt, fun i x hx => ⟨hc i x hx 0 _ rfl, hc i x hx 1 _ rfl, hc i x hx 2 _ rfl, hc i x hx 3 _ rfl, hc i x hx 4 _ rfl⟩⟩
theorem fix_t : (⟨#[116]⟩ : ByteArray).toList.isEmpty = false := by rw [ByteArray.toList_eq]; rfl
def fixE : List Nd := [⟨0, 0, nl⟩, ⟨1, 0, iv 5⟩, ⟨6, 0, nl⟩]
def fixP : Bg := [([iv 1, iv 1], 6)]
theorem fix_prod : productR false 0 0 [([iv 1], 2)] [([iv 1], 3)] = some fixP := by kernel_rfl
theorem fix_may : mayBag fixP = true := by kernel_rfl
theorem fix_err : errW (trueR fixE) fixP = 0 := by kernel_rfl
theorem fix_where : whereR (trueR fixE) fixP = fixP := by kernel_rfl
theorem fix_may9 : mayBag [([iv 9], 1)] = true := by kernel_rfl
theorem fix_err9 : errW (trueR fixE) [([iv 9], 1)] = 0 := by kernel_rfl
theorem fix_where9 : whereR (trueR fixE) [([iv 9], 1)] = [] := by kernel_rfl
theorem fix_text : bagTR fixP = [40, 49, 44, 32, 49, 41, 42, 54] := by kernel_rfl
theorem fix_pick : pickP [1] fixP = [([iv 1], 6)] := by kernel_rfl
theorem fix_text2 : bagTR [([iv 1], 6)] = [40, 49, 41, 42, 54] := by kernel_rfl
theorem fix_same : sameB fixP fixP = true := by kernel_rfl
structure FixS (w0 : World) (b : Nat) (x : Vq) (w : World) : Prop where
 below : Below w0.heap.size w0 w
 lt : b < w.heap.size
 bq : Bq w b x
 vin : Vq.In w x
theorem FixS.after {w0 w w' : World} {b : Nat} {x : Vq} (h : FixS w0 b x w) (hb : Below w.heap.size w w') : FixS w0 b x w' := ⟨below_via h.below hb, Nat.lt_of_lt_of_le h.lt hb.size, h.bq.below hb h.lt, h.vin.after hb⟩
theorem Bq.all {w : World} {b : Nat} {x : Vq} (h : Bq w b x) : w.cell? ⟨b, 0, none⟩ = some (.string x.name) ∧ w.cell? ⟨b, 1, none⟩ = some (.string x.frm) ∧ w.cell? ⟨b, 2, none⟩ = some (.string x.wth) ∧ w.cell? ⟨b, 3, none⟩ = some (.int .i64 x.on0) ∧ w.cell? ⟨b, 4, none⟩ = some (.int .i64 x.on1) ∧
 w.cell? ⟨b, 5, none⟩ = some (.slice x.eA x.en x.ec) ∧ w.cell? ⟨b, 6, none⟩ = some (.slice x.pA x.pn x.pc) ∧ w.cell? ⟨b, 7, none⟩ = some (.bool x.grp) ∧ w.cell? ⟨b, 8, none⟩ = some (.slice x.aA x.an x.ac) := by
 unfold Bq at h
 refine ⟨?_, ?_, ?_, ?_, ?_, ?_, ?_, ?_, ?_⟩ <;> simp [World.cell?, h, Vq.cells]
end Go.Proofs.YtbpopkgpepmlcaaGreat
namespace Go.Proofs.YtbpopkgpepmlcaaGreat
open Go Go.RowKit
set_option maxRecDepth 100000
attribute [local go_sem ↓] Go.wp_at_zero Go.wp_at_succ
set_option maxHeartbeats 8000000 in
theorem qfixed_c (w : World) : Calls Tryz.prog 5 #[] w fun e w' => e = .returned (.bool true) ∧ Below w.heap.size w w' := by
 go_enter Tryz.func5, Tryz.ntmps5
 go_wp2_with fail
 refine (rintQ_c 5 _).mono ?_
 rintro e w1 ⟨rfl, hb1⟩
 go_wp2_with fail
 have HS0 : Hid (FixS w (w1.heap.size + 1) (⟨emp, emp, ⟨#[116]⟩, 0, 0, some ⟨w1.heap.size, 0, none⟩, 3, 3, fixE, some ⟨w.heap.size, 0, none⟩, 1, 1, [1], false, none, 0, 0⟩ : Vq) ((w1.alloc (.cells #[.int .i64 0, .int .i64 0, .int .i64 0, .int .i64 0, .string { data := #[] }, .int .i64 1, .int .i64 0, .int .i64 (iv 5).k, .int .i64 (iv 5).n, .string (iv 5).s, .int .i64 6, .int .i64 0, .int .i64 0, .int .i64 0, .string { data := #[] }] 48)).alloc (.cells #[.string { data := #[] }, .string { data := #[] }, .string { data := #[116] }, .int .i64 0, .int .i64 0, .slice (some { block := w1.heap.size, off := 0 }) 3 3, .slice (some { block := w.heap.size, off := 0 }) 1 1, .bool false, .slice none 0 0] 28))) := Lib.hid ⟨below_via (below_via (below_one _ _) hb1) (below_two _ _ _), by simp, by
  have := Bq.new (w1.alloc (.cells #[.int .i64 0, .int .i64 0, .int .i64 0, .int .i64 0, .string { data := #[] }, .int .i64 1, .int .i64 0, .int .i64 (iv 5).k, .int .i64 (iv 5).n, .string (iv 5).s, .int .i64 6, .int .i64 0, .int .i64 0, .int .i64 0, .string { data := #[] }] 48)) (⟨emp, emp, ⟨#[116]⟩, 0, 0, some ⟨w1.heap.size, 0, none⟩, 3, 3, fixE, some ⟨w.heap.size, 0, none⟩, 1, 1, [1], false, none, 0, 0⟩ : Vq)
  rw [show (w1.alloc (.cells #[.int .i64 0, .int .i64 0, .int .i64 0, .int .i64 0, .string { data := #[] }, .int .i64 1, .int .i64 0, .int .i64 (iv 5).k, .int .i64 (iv 5).n, .string (iv 5).s, .int .i64 6, .int .i64 0, .int .i64 0, .int .i64 0, .string { data := #[] }] 48)).heap.size = w1.heap.size + 1 by simp] at this
  exact this, ⟨rfl, by show 3 ≤ maxLen; unfold maxLen; omega, (SlN.newQ fixE rfl).after (below_one _ _), fun x hx => by
   simp only [fixE, List.mem_cons, List.not_mem_nil, or_false] at hx
   rcases hx with rfl | rfl | rfl <;> exact Nat.zero_le _, rfl, by show 1 ≤ maxLen; unfold maxLen; omega, ((SlG.new (rd := rdI) (fun _ => rfl) [1] rfl).after hb1).after (below_two _ _ _)⟩⟩
 obtain ⟨W, hW⟩ : ∃ W, ((w1.alloc (.cells #[.int .i64 0, .int .i64 0, .int .i64 0, .int .i64 0, .string { data := #[] }, .int .i64 1, .int .i64 0, .int .i64 (iv 5).k, .int .i64 (iv 5).n, .string (iv 5).s, .int .i64 6, .int .i64 0, .int .i64 0, .int .i64 0, .string { data := #[] }] 48)).alloc (.cells #[.string { data := #[] }, .string { data := #[] }, .string { data := #[116] }, .int .i64 0, .int .i64 0, .slice (some { block := w1.heap.size, off := 0 }) 3 3, .slice (some { block := w.heap.size, off := 0 }) 1 1, .bool false, .slice none 0 0] 28)) = W := ⟨_, rfl⟩
 rw [hW] at HS0 ⊢
 clear hW hb1
 obtain ⟨b, hb⟩ : ∃ b, w1.heap.size + 1 = b := ⟨_, rfl⟩
 rw [hb] at HS0 ⊢
 obtain ⟨g, hg⟩ : ∃ g, w1.heap.size = g := ⟨_, rfl⟩
 rw [hg] at HS0 ⊢
 obtain ⟨p, hp⟩ : ∃ p, w.heap.size = p := ⟨_, rfl⟩
 have Hp := Lib.hid hp
 rw [hp] at HS0 ⊢
 clear hb hg hp
 have HbW := Lib.hid HS0.out.below
 have HS : Hid (FixS W b (⟨emp, emp, ⟨#[116]⟩, 0, 0, some ⟨g, 0, none⟩, 3, 3, fixE, some ⟨p, 0, none⟩, 1, 1, [1], false, none, 0, 0⟩ : Vq) W) := Lib.hid ⟨Below.refl _ _, HS0.out.lt, HS0.out.bq, HS0.out.vin⟩
 clear HS0
 obtain ⟨c0, c1, c2, c3, c4, c5, c6, c7, c8⟩ := HS.out.bq.all
 simp only at c0 c1 c2 c3 c4 c5 c6 c7 c8
 have lb := HS.out.lt
 go_region_held3 (fun w' => w'.cell? ⟨b, 0, none⟩ = some (.string emp) ∧ w'.cell? ⟨b, 1, none⟩ = some (.string emp) ∧ w'.cell? ⟨b, 2, none⟩ = some (.string ⟨#[116]⟩) ∧ w'.cell? ⟨b, 3, none⟩ = some (.int .i64 0) ∧ w'.cell? ⟨b, 4, none⟩ = some (.int .i64 0) ∧ w'.cell? ⟨b, 5, none⟩ = some (.slice (some ⟨g, 0, none⟩) 3 3) ∧ w'.cell? ⟨b, 6, none⟩ = some (.slice (some ⟨p, 0, none⟩) 1 1) ∧ w'.cell? ⟨b, 7, none⟩ = some (.bool false) ∧ w'.cell? ⟨b, 8, none⟩ = some (.slice none 0 0)) (first | exact HS.out.bq.all | go_keep)
  (first
    | (go_at_call 15
       with_reducible refine (lone_c 1 2 _ (by decide) (by decide)).mono ?_
       rintro en wa ⟨A1, h1, rfl, hb1, hB1, hx1⟩
       replace HS : Hid (FixS W b (⟨emp, emp, ⟨#[116]⟩, 0, 0, some ⟨g, 0, none⟩, 3, 3, fixE, some ⟨p, 0, none⟩, 1, 1, [1], false, none, 0, 0⟩ : Vq) wa) := Lib.hid (by first | exact HS.out.after hb1 | exact HS.out.after (below_via (Below.refl _ _).drew hb1))
       try replace HB2 : Hid (BgIn wa A2 1 [⟨h2, 3⟩]) := Lib.hid (by first | exact HB2.out.after hb1 | exact HB2.out.after (below_via (Below.refl _ _).drew hb1))
       have HB1 := Lib.hid hB1
       have X1 := Lib.hid hx1
       clear hb1 hB1 hx1)
    | (go_at_call 15
       with_reducible refine (lone_c 1 3 _ (by decide) (by decide)).mono ?_
       rintro en wb ⟨A2, h2, rfl, hb2, hB2, hx2⟩
       replace HS : Hid (FixS W b (⟨emp, emp, ⟨#[116]⟩, 0, 0, some ⟨g, 0, none⟩, 3, 3, fixE, some ⟨p, 0, none⟩, 1, 1, [1], false, none, 0, 0⟩ : Vq) wb) := Lib.hid (by first | exact HS.out.after hb2 | exact HS.out.after (below_via (Below.refl _ _).drew hb2))
       try replace HB1 : Hid (BgIn wb A1 1 [⟨h1, 2⟩]) := Lib.hid (by first | exact HB1.out.after hb2 | exact HB1.out.after (below_via (Below.refl _ _).drew hb2))
       have HB2 := Lib.hid hB2
       have X2 := Lib.hid hx2
       clear hb2 hB2 hx2)
    | (go_at_call 6
       refine (product_c (⟨emp, emp, ⟨#[116]⟩, 0, 0, some ⟨g, 0, none⟩, 3, 3, fixE, some ⟨p, 0, none⟩, 1, 1, [1], false, none, 0, 0⟩ : Vq) A1 A2 1 1 1 1 [⟨h1, 2⟩] [⟨h2, 3⟩] _ (by first | exact HB1.out | exact HB1.out.after (Below.refl _ _).drew) (by first | exact HB2.out | exact HB2.out.after (Below.refl _ _).drew) (by omega) (by omega)).mono ?_
       rintro en w5 ⟨Ap, np, cp, op, er, rfl, hE⟩
       have hE2 := hE.said
       have ep : productR (({ data := #[116] } : ByteArray).toList.isEmpty) 0 0 (pl [⟨h1, 2⟩]) (pl [⟨h2, 3⟩]) = some fixP := by
        rw [fix_t]
        show productR false 0 0 [(h1.xs, 2)] [(h2.xs, 3)] = _
        rw [X1.out, X2.out]
        exact fix_prod
       rw [ep] at hE2
       obtain ⟨rfl, hop⟩ := hE2
       have hb5 := hE.below
       replace HS : Hid (FixS W b (⟨emp, emp, ⟨#[116]⟩, 0, 0, some ⟨g, 0, none⟩, 3, 3, fixE, some ⟨p, 0, none⟩, 1, 1, [1], false, none, 0, 0⟩ : Vq) w5) := Lib.hid (by first | exact HS.out.after hb5 | exact HS.out.after (below_via (Below.refl _ _).drew hb5))
       have BP := Lib.hid hE.bag
       have HP := Lib.hid hop
       clear hE hop ep hb5 HB1 HB2 X1 X2)
)
 all_goals
  clear c0 c1 c2 c3 c4 c5 c6 c7 c8 lb
  obtain ⟨c0, c1, c2, c3, c4, c5, c6, c7, c8⟩ := HS.out.bq.all
  simp only at c0 c1 c2 c3 c4 c5 c6 c7 c8
  have lb := HS.out.lt
  go_wp2_with fail
  refine (where_c (⟨emp, emp, ⟨#[116]⟩, 0, 0, some ⟨g, 0, none⟩, 3, 3, fixE, some ⟨p, 0, none⟩, 1, 1, [1], false, none, 0, 0⟩ : Vq) Ap np cp op w5 HS.out.vin BP.out (by have h1 := BP.out.len; rw [← pl_len, HP.out] at h1; have h2 : 1 = np := h1; omega)).mono ?_
  rintro en w6 ⟨Aw, nw, cw, ow, er, rfl, hW⟩
  have her := hW.er
  have hpw := hW.said
  rw [HP.out, fix_may, if_pos rfl] at her hpw
  have her2 : er = 0 := her.trans fix_err
  have hpw2 : pl ow = fixP := hpw.trans fix_where
  subst her2
  replace HS : Hid (FixS W b (⟨emp, emp, ⟨#[116]⟩, 0, 0, some ⟨g, 0, none⟩, 3, 3, fixE, some ⟨p, 0, none⟩, 1, 1, [1], false, none, 0, 0⟩ : Vq) w6) := Lib.hid (HS.out.after hW.below)
  replace BP := Lib.hid (BP.out.after hW.below)
  have BW := Lib.hid hW.bag
  have HW := Lib.hid hpw2
  clear her hpw hpw2 hW c0 c1 c2 c3 c4 c5 c6 c7 c8 lb
  obtain ⟨c0, c1, c2, c3, c4, c5, c6, c7, c8⟩ := HS.out.bq.all
  simp only at c0 c1 c2 c3 c4 c5 c6 c7 c8
  have lb := HS.out.lt
  go_wp2_with fail
  go_region_held3 (fun w' => w'.cell? ⟨b, 0, none⟩ = some (.string emp) ∧ w'.cell? ⟨b, 1, none⟩ = some (.string emp) ∧ w'.cell? ⟨b, 2, none⟩ = some (.string ⟨#[116]⟩) ∧ w'.cell? ⟨b, 3, none⟩ = some (.int .i64 0) ∧ w'.cell? ⟨b, 4, none⟩ = some (.int .i64 0) ∧ w'.cell? ⟨b, 5, none⟩ = some (.slice (some ⟨g, 0, none⟩) 3 3) ∧ w'.cell? ⟨b, 6, none⟩ = some (.slice (some ⟨p, 0, none⟩) 1 1) ∧ w'.cell? ⟨b, 7, none⟩ = some (.bool false) ∧ w'.cell? ⟨b, 8, none⟩ = some (.slice none 0 0)) (first | exact HS.out.bq.all | go_keep)
   (first
     | (go_at_call 15
        refine (lone_c 9 1 _ (by decide) (by decide)).mono ?_
        rintro en wc ⟨A9, h9, rfl, hb9, hB9, hx9⟩
        replace HS : Hid (FixS W b (⟨emp, emp, ⟨#[116]⟩, 0, 0, some ⟨g, 0, none⟩, 3, 3, fixE, some ⟨p, 0, none⟩, 1, 1, [1], false, none, 0, 0⟩ : Vq) wc) := Lib.hid (by first | exact HS.out.after hb9 | exact HS.out.after (below_via (Below.refl _ _).drew hb9))
        replace BP : Hid (BgIn wc Ap np op) := Lib.hid (by first | exact BP.out.after hb9 | exact BP.out.after (below_via (Below.refl _ _).drew hb9))
        replace BW : Hid (BgIn wc Aw nw ow) := Lib.hid (by first | exact BW.out.after hb9 | exact BW.out.after (below_via (Below.refl _ _).drew hb9))
        have HB9 := Lib.hid hB9
        have X9 := Lib.hid hx9
        clear hb9 hB9 hx9)
     | (go_at_call 8
        refine (where_c (⟨emp, emp, ⟨#[116]⟩, 0, 0, some ⟨g, 0, none⟩, 3, 3, fixE, some ⟨p, 0, none⟩, 1, 1, [1], false, none, 0, 0⟩ : Vq) A9 1 1 [⟨h9, 1⟩] _ (by first | exact HS.out.vin | exact HS.out.vin.after (Below.refl _ _).drew) (by first | exact HB9.out | exact HB9.out.after (Below.refl _ _).drew) (by omega)).mono ?_
        rintro en wd ⟨Ax, nx, cx, ox, er, rfl, hX⟩
        have her := hX.er
        have hpx := hX.said
        rw [show pl [(⟨h9, 1⟩ : Ct)] = [([iv 9], 1)] by show [(h9.xs, (1 : Int))] = _; rw [X9.out], fix_may9, if_pos rfl] at her hpx
        have her2 : er = 0 := her.trans fix_err9
        have hpx2 : pl ox = [] := hpx.trans fix_where9
        subst her2
        have hb5 := hX.below
        replace HS : Hid (FixS W b (⟨emp, emp, ⟨#[116]⟩, 0, 0, some ⟨g, 0, none⟩, 3, 3, fixE, some ⟨p, 0, none⟩, 1, 1, [1], false, none, 0, 0⟩ : Vq) wd) := Lib.hid (by first | exact HS.out.after hb5 | exact HS.out.after (below_via (Below.refl _ _).drew hb5))
        replace BP : Hid (BgIn wd Ap np op) := Lib.hid (by first | exact BP.out.after hb5 | exact BP.out.after (below_via (Below.refl _ _).drew hb5))
        replace BW : Hid (BgIn wd Aw nw ow) := Lib.hid (by first | exact BW.out.after hb5 | exact BW.out.after (below_via (Below.refl _ _).drew hb5))
        have HNx : Hid (nx = 0) := Lib.hid (by have h1 := hX.bag.len; rw [← pl_len, hpx2] at h1; exact h1.symm)
        clear hX her hpx hpx2 hb5 HB9 X9))
  clear c0 c1 c2 c3 c4 c5 c6 c7 c8 lb
  obtain rfl : nx = 0 := HNx.out
  have ht := rtextB_c Ap np cp op wd BP.out (by have h1 := BP.out.len; rw [← pl_len, HP.out] at h1; have h2 : 1 = np := h1; omega) (fun c hc => by
   have h1 : (c.h.xs, c.N) ∈ fixP := by rw [← HP.out]; exact pl_mem hc
   have h2 : c.h.xs = [iv 1, iv 1] := by
    simp only [fixP, List.mem_singleton] at h1
    exact congrArg Prod.fst h1
   refine ⟨by rw [← (BP.out.each c hc).hd.len, h2]; decide, fun x hx => ?_⟩
   rw [h2] at hx
   simp only [List.mem_cons, List.not_mem_nil, or_false] at hx
   rcases hx with rfl | rfl <;> exact Nat.zero_le _)
  rw [HP.out, fix_text] at ht
  have Ht := Lib.hid ht
  clear ht
  go_wp2_with fail
  refine Ht.out.mono ?_
  rintro en we ⟨rfl, hbe⟩
  replace HS := Lib.hid (HS.out.after hbe)
  replace BP := Lib.hid (BP.out.after hbe)
  replace BW := Lib.hid (BW.out.after hbe)
  clear hbe Ht
  have hs := sameB_c Aw Ap nw np cw cp ow op we BW.out BP.out
  rw [HW.out, HP.out, fix_same] at hs
  have Hs := Lib.hid hs
  clear hs
  go_wp2_with fail
  refine Hs.out.mono ?_
  rintro en wf ⟨rfl, hbf⟩
  replace HS : Hid (FixS W b (⟨emp, emp, ⟨#[116]⟩, 0, 0, some ⟨g, 0, none⟩, 3, 3, fixE, some ⟨p, 0, none⟩, 1, 1, [1], false, none, 0, 0⟩ : Vq) wf) := Lib.hid (HS.out.after hbf)
  replace BP := Lib.hid (BP.out.after hbf)
  clear hbf Hs BW
  obtain ⟨c0, c1, c2, c3, c4, c5, c6, c7, c8⟩ := HS.out.bq.all
  simp only at c0 c1 c2 c3 c4 c5 c6 c7 c8
  have lb := HS.out.lt
  go_wp2_with fail
  have hpk := qpick_c (⟨emp, emp, ⟨#[116]⟩, 0, 0, some ⟨g, 0, none⟩, 3, 3, fixE, some ⟨p, 0, none⟩, 1, 1, [1], false, none, 0, 0⟩ : Vq) Ap np cp op wf HS.out.vin BP.out (by have h1 := BP.out.len; rw [← pl_len, HP.out] at h1; have h2 : 1 = np := h1; omega)
  rw [HP.out] at hpk
  have Hpk := Lib.hid hpk
  clear hpk c0 c1 c2 c3 c4 c5 c6 c7 c8 lb
  refine Hpk.out.mono ?_
  rintro en wg ⟨Ak, nk, ck, ok, rfl, hbg, hBg, hpg⟩
  have hpg2 : pl ok = [([iv 1], 6)] := hpg.trans fix_pick
  have HSg := Lib.hid (HS.out.after hbg)
  have BK := Lib.hid hBg
  have HK := Lib.hid hpg2
  clear hbg hBg hpg hpg2 Hpk
  have ht := rtextB_c Ak nk ck ok wg BK.out (by have h1 := BK.out.len; rw [← pl_len, HK.out] at h1; have h2 : 1 = nk := h1; omega) (fun c hc => by
   have h1 : (c.h.xs, c.N) ∈ [([iv 1], (6 : Int))] := by rw [← HK.out]; exact pl_mem hc
   have h2 : c.h.xs = [iv 1] := by
    simp only [List.mem_singleton] at h1
    exact congrArg Prod.fst h1
   refine ⟨by rw [← (BK.out.each c hc).hd.len, h2]; decide, fun x hx => ?_⟩
   rw [h2] at hx
   simp only [List.mem_cons, List.not_mem_nil, or_false] at hx
   rcases hx with rfl; exact Nat.zero_le _)
  rw [HK.out, fix_text2] at ht
  have Ht := Lib.hid ht
  clear ht
  go_wp2_with fail
  refine Ht.out.mono ?_
  rintro en wh ⟨rfl, hbh⟩
  have HF : Hid (Below w.heap.size w wh) := Lib.hid (below_via HbW.out (below_via HSg.out.below hbh))
  clear hbh Ht
  go_wp2
  go_ret
  exact ⟨rfl, HF.out⟩
end Go.Proofs.YtbpopkgpepmlcaaGreat
namespace Go.Proofs.YtbpopkgpepmlcaaGreat
open Go Go.RowKit
set_option maxRecDepth 100000
theorem sameB_iff : ∀ a b : Bg, sameB a b = true ↔ a = b
 | [], [] => by simp [sameB]
 | [], y :: b => by simp [sameB]
 | x :: a, [] => by simp [sameB]
 | x :: a, y :: b => by
   rw [sameB]
   simp only [Bool.and_eq_true, beq_iff_eq, sameB_iff a b]
   constructor
   · rintro ⟨h1, h2, h3⟩
     rw [h3, show x = y from Prod.ext (cmpL_iff.1 h2) h1]
   · intro h
     injection h with h1 h2
     subst h1 h2
     exact ⟨rfl, cmpL_same _, rfl⟩
theorem sameB_self (a : Bg) : sameB a a = true := (sameB_iff a a).2 rfl
end Go.Proofs.YtbpopkgpepmlcaaGreat
namespace Go.Proofs.YtbpopkgpepmlcaaGreat
open Go
theorem ones_fold : ∀ (L a : Bg), (ones L).foldl bothB a = bothB a L
 | [], _ => rfl
 | x :: L, a => by
   show (ones L).foldl bothB (bothB a [x]) = bothB (addB a x.1 x.2) L
   rw [ones_fold L]
   rfl
theorem ones_plus (L : Bg) : plusL (ones L) = bothB [] L := ones_fold L []
theorem low_may {L : Bg} (h : Bd 1000 L) (hr : ∀ x ∈ L, mayR x.1 = true) (hl : L.length ≤ 10000) : mayBag (bothB [] L) = true := by
 have ha : Asc (bothB [] L) := asc_both _ _ List.Pairwise.nil
 refine may_of ha fun x hx => ?_
 have h1 : x.2 ≠ 0 := nz_both L [] (fun y hy => by cases hy) x hx
 have h2 := look_mem _ x ha hx
 rw [look_both _ _ _ List.Pairwise.nil] at h2
 have h3 : lookB [] x.1 = 0 := rfl
 have h4 := sum_bd 1000 (by decide) L x.1 h
 have h5 := key_both (fun r => mayR r = true) L [] (fun y hy => by cases hy) hr x hx
 have h6 : (L.length : Int) * 1000 ≤ 10000000 := by omega
 exact okC_of h1 (by omega) (by omega) h5
theorem low_plus {L : Bg} (h : Bd 1000 L) (hr : ∀ x ∈ L, mayR x.1 = true ∧ x.2 ≠ 0) (hl : L.length ≤ 10000) : plusR (ones L) = bothB [] L := by
 unfold plusR
 rw [ones_plus, low_may h (fun x hx => (hr x hx).1) hl, all_ones]
 have h2 : L.all okC = true := List.all_eq_true.2 fun x hx => okC_of (hr x hx).2 (by have := h x hx; omega) (by have := h x hx; omega) (hr x hx).1
 rw [h2]
 rfl
theorem lowG_bd {b : Bg} (h : lowQ b = true) : Bd 1000 b ∧ b.length ≤ 60 := by
 unfold lowQ lowG smallB at h
 rw [Bool.and_eq_true, Bool.and_eq_true, List.all_eq_true, decide_eq_true_eq] at h
 refine ⟨fun x hx => ?_, h.2.2⟩
 have := h.1 x hx
 simp only [Bool.not_eq_true', Bool.or_eq_false_iff, decide_eq_false_iff_not] at this
 omega
theorem pick_mayR {ps : List Int} {r q : List Val} (h : pickR r ps = some q) (hp : ps.length ≤ 40) (hr : mayR r = true) : mayR q = true := by
 unfold mayR at hr ⊢
 rw [Bool.and_eq_true, decide_eq_true_eq, List.all_eq_true] at hr
 rw [Bool.and_eq_true, decide_eq_true_eq, List.all_eq_true]
 exact ⟨by rw [pick_len ps r q h]; exact hp, fun v hv => hr.2 v (pick_mem h v hv)⟩
theorem pickL_mem {ps : List Int} {b : Bg} {y : List Val × Int} (h : y ∈ pickL ps b) : ∃ x ∈ b, pickR x.1 ps = some y.1 ∧ y.2 = x.2 := by
 unfold pickL at h
 rw [List.mem_filterMap] at h
 obtain ⟨x, hx, h⟩ := h
 cases hp : pickR x.1 ps with
 | none => rw [hp] at h; cases h
 | some q =>
   rw [hp] at h
   cases h
   exact ⟨x, hx, hp, rfl⟩
theorem pickP_low {ps : List Int} {b : Bg} (hm : mayBag b = true) (hp : ps.length ≤ 40) (hb : Bd 1000 b) (hl : b.length ≤ 10000) : pickP ps b = bothB [] (pickL ps b) ∧ mayBag (bothB [] (pickL ps b)) = true := by
 have h1 : Bd 1000 (pickL ps b) := fun y hy => by
  obtain ⟨x, hx, _, e⟩ := pickL_mem hy
  rw [e]
  exact hb x hx
 have h2 : ∀ y ∈ pickL ps b, mayR y.1 = true ∧ y.2 ≠ 0 := fun y hy => by
  obtain ⟨x, hx, hq, e⟩ := pickL_mem hy
  obtain ⟨k1, _, _, k2⟩ := okC_parts (may_okC hm x hx)
  exact ⟨pick_mayR hq hp k2, by rw [e]; exact k1⟩
 have h3 : (pickL ps b).length ≤ 10000 := Nat.le_trans (pickL_len ps b) hl
 refine ⟨?_, low_may h1 (fun y hy => (h2 y hy).1) h3⟩
 unfold pickP
 rw [hm, decide_eq_true hp]
 exact low_plus h1 h2 h3
def tot (b : Bg) : Int := wt (fun _ => 1) b
theorem tot_cons (x : List Val × Int) (b : Bg) : tot (x :: b) = x.2 + tot b := by
 unfold tot
 rw [wt, Int.one_mul]
theorem tot_take {b : Bg} {k : Nat} {x : List Val × Int} (h : b[k]? = some x) : tot (b.take (k + 1)) = tot (b.take k) + x.2 := by
 rw [List.take_add_one, h]
 unfold tot
 rw [wt_app]
 show _ + (1 * x.2 + 0) = _
 omega
theorem tot_bd (P : Int) (hP : 0 ≤ P) : ∀ b : Bg, Bd P b → -(b.length * P) ≤ tot b ∧ tot b ≤ b.length * P
 | [], _ => by
   show -((0 : Int) * P) ≤ 0 ∧ 0 ≤ (0 : Int) * P
   simp
 | x :: b, h => by
   have h1 := tot_bd P hP b (fun y hy => h y (List.mem_cons_of_mem _ hy))
   have h2 := h x (by simp)
   rw [tot_cons, List.length_cons]
   have e : ((b.length + 1 : Nat) : Int) * P = b.length * P + P := by
    rw [Int.natCast_add, Int.add_mul, Int.natCast_one, Int.one_mul]
   rw [e]
   omega
theorem tot_both (L : Bg) : tot (bothB [] L) = tot L := by
 unfold tot
 rw [wt_both, wt, Int.zero_add]
theorem pick_two {ps : List Int} {r : List Val} (hr : r.length = 2) : (pickR r ps).isSome = ps.all fun p => p == 0 || p == 1 := by
 induction ps with
 | nil => rfl
 | cons p ps ih =>
   rw [pickR, hr, List.all_cons, ← ih]
   by_cases h0 : p = 0
   · subst h0
     rw [if_pos (by decide), List.getElem?_eq_getElem (by rw [hr]; decide)]
     cases pickR r ps <;> simp
   · by_cases h1 : p = 1
     · subst h1
       rw [if_pos (by decide), List.getElem?_eq_getElem (by rw [hr]; decide)]
       cases pickR r ps <;> simp
     · rw [if_neg (by omega)]
       simp [h0, h1]
theorem pickL_bad {ps : List Int} {b : Bg} (hr : ∀ x ∈ b, x.1.length = 2) (h : (ps.all fun p => p == 0 || p == 1) = false) : pickL ps b = [] := by
 refine List.eq_nil_iff_forall_not_mem.2 fun y hy => ?_
 obtain ⟨x, hx, hq, _⟩ := pickL_mem hy
 have := pick_two (ps := ps) (hr x hx)
 rw [hq, h] at this
 cases this
theorem pickL_tot {ps : List Int} : ∀ {b : Bg}, (∀ x ∈ b, x.1.length = 2) → (ps.all fun p => p == 0 || p == 1) = true → tot (pickL ps b) = tot b
 | [], _, _ => rfl
 | x :: b, hr, h => by
   have h1 := pick_two (ps := ps) (hr x (by simp))
   rw [h] at h1
   obtain ⟨q, hq⟩ := Option.isSome_iff_exists.1 h1
   have e : pickL ps (x :: b) = (q, x.2) :: pickL ps b := by
    unfold pickL
    rw [List.filterMap_cons, hq]
    rfl
   rw [e, tot_cons, tot_cons, pickL_tot (fun y hy => hr y (List.mem_cons_of_mem _ hy)) h]
theorem pick_01 {r : List Val} (hr : r.length = 2) : pickR r [0, 1] = some r := by
 match r, hr with
 | [a, b], _ => rfl
theorem pickL_01 : ∀ {b : Bg}, (∀ x ∈ b, x.1.length = 2) → pickL [0, 1] b = b
 | [], _ => rfl
 | x :: b, hr => by
   have h1 := pick_01 (hr x (by simp))
   have e : pickL [0, 1] (x :: b) = (x.1, x.2) :: pickL [0, 1] b := by
    unfold pickL
    rw [List.filterMap_cons, h1]
    rfl
   rw [e, pickL_01 fun y hy => hr y (List.mem_cons_of_mem _ hy)]
theorem picks_bad {ps : List Int} {b : Bg} (hr : ∀ x ∈ b, x.1.length = 2) (h : (ps.all fun p => p == 0 || p == 1) = false) : pickP ps b = [] := by
 unfold pickP
 rw [pickL_bad hr h]
 split <;> rfl
theorem picks_tot {ps : List Int} {b : Bg} (hm : mayBag b = true) (hp : ps.length ≤ 40) (hb : Bd 1000 b) (hl : b.length ≤ 60) (hr : ∀ x ∈ b, x.1.length = 2) (h : (ps.all fun p => p == 0 || p == 1) = true) : tot (pickP ps b) = tot b := by
 rw [(pickP_low hm hp hb (by omega)).1, tot_both, pickL_tot hr h]
theorem picks_01 {b : Bg} (hm : mayBag b = true) (hb : Bd 1000 b) (hl : b.length ≤ 60) (hr : ∀ x ∈ b, x.1.length = 2) : pickP [0, 1] b = b := by
 rw [(pickP_low hm (by decide) hb (by omega)).1, pickL_01 hr]
 exact both_nil (may_asc hm) (may_nz hm)
theorem len_add1 : ∀ (b : Bg) (r : List Val) (n : Int), (addB b r n).length ≤ b.length + 1
 | [], r, n => by rw [addB]; split <;> simp
 | x :: b, r, n => by
   have := len_add1 b r n
   rw [addB]
   repeat' split
   all_goals simp only [List.length_cons]
   all_goals omega
theorem len_both1 : ∀ (b a : Bg), (bothB a b).length ≤ a.length + b.length
 | [], a => Nat.le_refl _
 | x :: b, a => by
   have h1 := len_both1 b (addB a x.1 x.2)
   have h2 := len_add1 a x.1 x.2
   rw [both_cons, List.length_cons]
   omega
theorem picks_len {ps : List Int} {b : Bg} (hl : b.length ≤ 60) : (pickP ps b).length ≤ 60 := by
 unfold pickP
 split
 · unfold plusR
   split
   · rw [ones_plus]
     have h1 := len_both1 (pickL ps b) []
     have h2 := pickL_len ps b
     simp only [List.length_nil] at h1
     omega
   · exact Nat.zero_le _
 · exact Nat.zero_le _
end Go.Proofs.YtbpopkgpepmlcaaGreat
namespace Go.Proofs.YtbpopkgpepmlcaaGreat
open Go Go.RowKit
set_option maxRecDepth 100000
attribute [local go_sem ↓] Go.wp_at_zero Go.wp_at_succ
set_option maxHeartbeats 1000000 in
theorem rjoin4_c (A B : Option Addr) (n m c d : Nat) (xs ys : List Val) (w : World) (hx : Hd.In w ⟨A, n, c, xs⟩) (hy : Hd.In w ⟨B, m, d, ys⟩) (hl : n + m ≤ 100000) :
 Calls Tryz.prog 23 #[.slice A n c, .slice B m d] w fun e w' => ∃ v, e = .returned v ∧ Below w.heap.size w w' ∧ OwnV w' w.heap.size v (xs ++ ys) := by
 have X1 : Hid (xs.length = n) := Lib.hid hx.len
 have Y1 : Hid (ys.length = m) := Lib.hid hy.len
 have X2 : Hid (SlG w A 3 rdV xs) := Lib.hid (Sl.slG hx.sl)
 have Y2 : Hid (SlG w B 3 rdV ys) := Lib.hid (Sl.slG hy.sl)
 have HL := Lib.hid hl
 clear hx hy hl
 have H0 : Hid (OwnV (w.alloc (.cells #[] 46)) w.heap.size (.slice (some ⟨w.heap.size, 0, none⟩) 0 0) []) := Lib.hid (OwnG.made w w.heap.size _ #[] 0 (Nat.le_refl _) (Nat.zero_le _) rfl)
 have Hb0 : Hid (Below w.heap.size w (w.alloc (.cells #[] 46))) := Lib.hid (below_one _ _)
 go_enter Tryz.func23, Tryz.ntmps23
 go_wp2_with (at_builtin; go_must (first
  | (refine wpList_appG vOk rfl (.tmp 5) (.tmp 6) rfl w.heap.size _ [] xs A n c rfl H0.out rfl X1.out (X2.out.after Hb0.out) (by have := HL.out; rw [X1.out]; simp [maxLen]; omega) (by have := HL.out; rw [X1.out]; simp; omega) Hb0.out.size ?_
     intro v1 w1 hv1 hg1
     have Hv1 := Lib.hid hv1
     have Hb1 := Lib.hid (Hb0.out.grown hg1 Hb0.out.size (fun k hk => (H0.out.lt k hk).1))
     clear hv1 hg1)
  | (refine wpList_appG vOk rfl (.tmp 7) (.tmp 8) rfl w.heap.size _ ([] ++ xs) ys B m d rfl Hv1.out rfl Y1.out (Y2.out.after Hb1.out) (by have := HL.out; rw [List.nil_append, X1.out, Y1.out]; unfold maxLen; omega) (by have := HL.out; rw [List.nil_append, X1.out, Y1.out]; omega) Hb1.out.size ?_
     intro v2 w2 hv2 hg2
     have Hv2 := Lib.hid hv2
     have Hb2 := Lib.hid (Hb1.out.grown hg2 Hb1.out.size (fun k hk => (Hv1.out.lt k hk).1))
     clear hv2 hg2)))
 go_ret
 exact ⟨_, rfl, Hb2.out, Hv2.out⟩
def PickSaid4 (w : World) (xs : List Val) (cs : List Int) (en : Ending) (w' : World) : Prop := ∃ (h : Hd) (ok : Bool), en = .returned (.tuple #[h.v, .bool ok]) ∧ Below w.heap.size w w' ∧ Hd.In w' h ∧ pickOk xs cs h ok ∧ h.n ≤ h.c
set_option maxHeartbeats 2000000 in
theorem rpick4_c (A B : Option Addr) (n c m d : Nat) (xs : List Val) (cs : List Int) (w : World) (hn : xs.length = n) (hn1 : n ≤ maxLen) (hs : Sl w A xs) (hm : cs.length = m) (hm1 : m ≤ 100000) (hk : SlG w B 1 rdI cs) :
 Calls Tryz.prog 32 #[.slice A n c, .slice B m d] w fun en w' => PickSaid4 w xs cs en w' := by
 unfold maxLen at hn1
 have Hs := Lib.hid hs
 have Hn := Lib.hid hn
 have Hm := Lib.hid hm
 have Hk := Lib.hid hk
 clear hs hn hm hk
 have H0 : Hid (OwnV (w.alloc (.cells #[] 46)) w.heap.size (.slice (some ⟨w.heap.size, 0, none⟩) 0 0) []) := Lib.hid (OwnG.made w w.heap.size _ #[] 0 (Nat.le_refl _) (Nat.zero_le _) rfl)
 have Hb0 : Hid (Below w.heap.size w (w.alloc (.cells #[] 46))) := Lib.hid (below_one _ _)
 go_enter Tryz.func32, Tryz.ntmps32
 go_wp2_with fail
 go_loopw [6, 7] (fun v i wr => ∃ (k : Nat) (l : List Val), k ≤ m ∧ i = .int .i64 k ∧ Hid (Below w.heap.size w wr) ∧ Hid (l.length = k) ∧ Hid (OwnV wr w.heap.size v l) ∧ Hid (pickR xs cs = (pickR xs (cs.drop k)).map (l ++ ·))) (fun _ i _ => m - (intOf i).toNat)
 case atStart => exact ⟨0, [], Nat.zero_le _, rfl, Hb0, Lib.hid rfl, H0, Lib.hid (by simp)⟩
 case round =>
  obtain ⟨k, l, hk, rfl, hb, hlen, ho, hl⟩ := hrel
  clear H0 Hb0
  obtain ⟨A1, c1, hv⟩ := ho.out.isSlice
  rw [hlen.out] at hv
  subst hv
  by_cases hlt : k < m
  · obtain ⟨b, off, y, rfl, hblt, hy, c0⟩ := Hk.out.at1 (by rw [Hm.out]; exact hlt)
    have d0 := (hb.out.cell (p := ⟨b, off + k, none⟩) hblt).trans (c0 _ rfl)
    have l0 : b < wr.heap.size := Nat.lt_of_lt_of_le hblt hb.out.size
    have hst := pickR_drop xs cs k y hy
    rw [Hn.out] at hst
    have Hst := Lib.hid hst
    clear hst hy c0 hblt
    have hlt' : (k : Int) < m := by omega
    by_cases hin : 0 ≤ y ∧ y < n
    · obtain ⟨j, rfl⟩ : ∃ j : Nat, y = j := ⟨y.toNat, by omega⟩
      have hj : j < n := by omega
      obtain ⟨b2, off2, x, rfl, hblt2, hx, e0, e1, e2⟩ := Hs.out.at3 (by rw [Hn.out]; exact hj)
      have d1 := (hb.out.cell (p := ⟨b2, off2 + j * 3, none⟩) hblt2).trans e0
      have d2 := (hb.out.cell (p := ⟨b2, off2 + j * 3 + 1, none⟩) hblt2).trans e1
      have d3 := (hb.out.cell (p := ⟨b2, off2 + j * 3 + 2, none⟩) hblt2).trans e2
      have l2 : b2 < wr.heap.size := Nat.lt_of_lt_of_le hblt2 hb.out.size
      have Hl1 : Hid (pickR xs cs = (pickR xs (cs.drop (k + 1))).map ((l ++ [x]) ++ ·)) := Lib.hid (by
       rw [hl.out, Hst.out, if_pos ⟨by omega, by omega⟩, Int.toNat_natCast, hx]
       simp [Function.comp_def])
      have hj0 : ¬ (j : Int) < 0 := by omega
      have hj1 : ¬ (j : Int) ≥ n := by omega
      have hj2 : (j : Int) < n := by omega
      clear e0 e1 e2 hx hin Hst hl hblt2
      obtain ⟨xk, xn, xs2⟩ := x
      try simp only at d1 d2 d3
      go_wp2_with (at_builtin; go_must (
       refine wpList_appG vOk rfl (.tmp 29) (.tmp 37) rfl w.heap.size _ l [⟨xk, xn, xs2⟩] (some ⟨wr.heap.size, 0, none⟩) 1 1 rfl (ho.out.alloc _) rfl rfl (SlG.new vOk.len [⟨xk, xn, xs2⟩] rfl) (by rw [hlen.out]; simp [maxLen]; omega) (by rw [hlen.out]; simp; omega) (by have := hb.out.size; simp; omega) ?_
       intro v3 w3 hv3 hg3
       have Hv3 := Lib.hid hv3
       have Hb3 := Lib.hid ((below_al hb.out _).grown hg3 (below_al hb.out _).size (fun k hk => (ho.out.lt k hk).1))
       clear hv3 hg3))
      go_roundw
      case rel => exact ⟨k + 1, _, by omega, by go_num, Hb3, Lib.hid (by rw [List.length_append, hlen.out]; rfl), Hv3, Hl1⟩
      case measure => simp [intOf]; omega
    · have hnone : Hid (pickR xs cs = none) := by
       have h2 := Hst.out
       rw [if_neg hin] at h2
       have h3 := hl.out
       rw [h2] at h3
       exact h3
      clear Hst
      rcases Int.lt_or_le y 0 with hy0 | hy0
      · clear hin
        go_wp2_with fail
        go_ret2
        unfold PickSaid4
        refine ⟨⟨none, 0, 0, []⟩, false, rfl, hb.out, ⟨rfl, Nat.zero_le _, .inl rfl⟩, ?_, Nat.le_refl _⟩
        unfold pickOk
        rw [hnone.out]
        exact ⟨rfl, rfl⟩
      · have hy1 : (n : Int) ≤ y := by omega
        have hy2 : ¬ y < 0 := by omega
        clear hin
        go_wp2_with fail
        go_ret2
        unfold PickSaid4
        refine ⟨⟨none, 0, 0, []⟩, false, rfl, hb.out, ⟨rfl, Nat.zero_le _, .inl rfl⟩, ?_, Nat.le_refl _⟩
        unfold pickOk
        rw [hnone.out]
        exact ⟨rfl, rfl⟩
  · obtain rfl : k = m := by omega
    have HP : Hid (pickOk xs cs ⟨A1, k, c1, l⟩ true) := Lib.hid (by
     have h3 := hl.out
     rw [show cs.drop k = [] from List.drop_eq_nil_of_le (by rw [Hm.out]; omega), pickR] at h3
     unfold pickOk
     rw [h3]
     simp)
    obtain ⟨h, hv, hIn, hxs, _, hrm⟩ := ho.out.hd
    obtain ⟨hA, hn9, hc9, hxs9⟩ := h
    simp only [Hd.v] at hv hxs
    injection hv with z1 z2 z3
    subst z1 z3 z2 hxs
    have HI := Lib.hid hIn
    have HR := Lib.hid hrm
    clear hIn hrm hl ho hlen
    go_wp2_with fail
    go_ret2
    unfold PickSaid4
    exact ⟨⟨_, _, _, _⟩, true, rfl, hb.out, HI.out, HP.out, HR.out⟩
end Go.Proofs.YtbpopkgpepmlcaaGreat
namespace Go.Proofs.YtbpopkgpepmlcaaGreat
open Go Go.RowKit
set_option maxRecDepth 100000
attribute [local go_sem ↓] Go.wp_at_zero Go.wp_at_succ run_eqV
theorem rtruth9_c (b : Bool) (w : World) : Calls Tryz.prog 49 #[.bool b] w fun e w' => e = .returned (tv b).v ∧ Below w.heap.size w w' := by
 cases b
 all_goals
  go_enter Tryz.func49, Tryz.ntmps49
  go_wp2
 · exact bodyPost_ret (v := ff.v) (by simp [results, Tryz.results49, go_sem, ff]) rfl ⟨rfl, (below_one _ _).alloc (by simp) _⟩
 · exact bodyPost_ret (v := tt.v) (by simp [results, Tryz.results49, go_sem, tt]) rfl ⟨rfl, (below_one _ _).alloc (by simp) _⟩
theorem enrTruth9 : ∀ args w, (callFunc 49 args).run Tryz.prog w = .ok (.enter 49 args) w := fun _ _ => by kernel_rfl
theorem ev_eqEr {F : Act} {w : World} {t : Tmp} {o : Oper} (a b : Int) (ho : o.op = .binOp .eql 33 (.tmp t) (.const (.int .i64 b)) 33) (ht : Reg.slot F t = .int .i64 a) :
 (execOp F.eval o).run Tryz.prog w = .ok (.value (.bool (a == b))) w := by
 have e1 : F.eval (.tmp t) = .int .i64 a := ht
 have e2 : F.eval (.const (.int .i64 b)) = .int .i64 b := rfl
 have e0 : (execOp F.eval o).run Tryz.prog w = ((do eqGuard .eql 33 (.tmp t) (.const (.int .i64 b)) (.int .i64 a) (.int .i64 b); binOp .eql 33 (.int .i64 a) (.int .i64 b)).run Tryz.prog w).andThen fun v w' => .ok (.value v) w' := by
  simp only [execOp, ho, e1, e2, Sem.run_bind, Sem.run_pure]
 rw [e0]
 go_simp
def TrueSaid (w : World) (r : Bool × Int) (en : Ending) (w' : World) : Prop := ∃ b, en = .returned (.tuple #[.bool b, .int .i64 r.2]) ∧ (r.2 = 0 → b = r.1) ∧ Below w.heap.size w w'
set_option maxHeartbeats 2000000 in
theorem rtrue_of (A A2 : Option Addr) (n c m c2 : Nat) (v : Val) (er : Int) (w : World) (hn : n ≠ 0) (hmax : n ≤ maxLen)
 (Hev : Hid (Calls Tryz.prog 48 #[.slice A n c, .slice A2 m c2] w fun en w' => en = .returned (.tuple #[v.v, .int .i64 er]) ∧ Below w.heap.size w w')) :
 Calls Tryz.prog 28 #[.slice A n c, .slice A2 m c2] w fun en w' => TrueSaid w (v.eq tt, er) en w' := by
 have hm' : n ≤ 9223372036854775807 := hmax
 have h1 : ((n : Int) == 0) = false := by simpa using hn
 clear hmax hn
 have hsaid : Hid (∀ b : Bool, (er = 0 → b = v.eq tt) → ∀ w', Below w.heap.size w w' → TrueSaid w (v.eq tt, er) (.returned (.tuple #[.bool b, .int .i64 er])) w') := Lib.hid fun b h w' hb => ⟨b, rfl, h, hb⟩
 obtain ⟨R, hR⟩ : ∃ R, TrueSaid w (v.eq tt, er) = R := ⟨_, rfl⟩
 rw [hR] at hsaid ⊢
 clear hR
 go_enter Tryz.func28, Tryz.ntmps28
 go_wp2_with fail
 refine Hev.out.mono ?_
 rintro en w1 ⟨rfl, hb1⟩
 have bx := Bx.new w1 v
 have hl : w1.heap.size < (w1.alloc (.cells #[.int .i64 v.k, .int .i64 v.n, .string v.s] 46)).heap.size := by simp
 have Hb := Lib.hid (hb1.alloc hb1.size (.cells #[.int .i64 v.k, .int .i64 v.n, .string v.s] 46))
 clear hb1 Hev
 go_wp2_with fail
 generalize w1.alloc (.cells #[.int .i64 v.k, .int .i64 v.n, .string v.s] 46) = w2 at bx hl Hb ⊢
 clear hl
 by_cases h0 : er = 0
 case neg =>
  have HN := Lib.hid h0
  have h2 : (er == 0) = false := by simpa using h0
  clear h0
  refine Reg.wp_region_vals mixed (by kernel_rfl) [(17, .int .i64 er), (18, .bool false), (19, .bool false), (20, undef), (21, undef), (22, undef), (23, .bool false), (24, .int .i64 er), (4, .bool false), (5, .int .i64 er)] 25 rfl (by kernel_rfl) ?_ ?_
  · intro F hF w' hB'
    have bx' : Bx w' w1.heap.size v := bx.after hB'
    refine ⟨?_, ?_, ?_, ?_, ?_, ?_, ?_, ?_, ?_, ?_, trivial⟩
    · exact Reg.doesV_val (ev_move rfl) (by rw [hF]; kernel_rfl) (by rw [hF]; kernel_rfl)
    · exact Reg.doesV_val (by rw [ev_eqEr er 0 rfl (by rw [hF]; kernel_rfl), h2]) (by rw [hF]; kernel_rfl) (by rw [hF]; kernel_rfl)
    · exact Reg.doesV_val (ev_move rfl) (by rw [hF]; kernel_rfl) (by rw [hF]; kernel_rfl)
    · exact Reg.doesV_skip (by rw [hF]; kernel_rfl) (by rw [hF]; kernel_rfl)
    · exact Reg.doesV_skip (by rw [hF]; kernel_rfl) (by rw [hF]; kernel_rfl)
    · exact Reg.doesV_skip (by rw [hF]; kernel_rfl) (by rw [hF]; kernel_rfl)
    · exact Reg.doesV_val (ev_pick false rfl (by rw [hF]; kernel_rfl)) (by rw [hF]; kernel_rfl) (by rw [hF]; kernel_rfl)
    · exact Reg.doesV_val (ev_move rfl) (by rw [hF]; kernel_rfl) (by rw [hF]; kernel_rfl)
    · exact Reg.doesV_val (ev_assign rfl) (by rw [hF]; kernel_rfl) (by rw [hF]; kernel_rfl)
    · exact Reg.doesV_val (ev_assign rfl) (by rw [hF]; kernel_rfl) (by rw [hF]; kernel_rfl)
  · intro w' hB'
    simp only [Reg.putAll, Act.put, List.setIfInBounds_toArray, List.set_cons_zero, List.set_cons_succ]
    have Hb2 := Lib.hid (Hb.out.trans (hB'.mono Hb.out.size))
    clear hB'
    go_wp2
    exact hsaid.out _ (fun h => absurd h HN.out) _ Hb2.out
 case pos =>
  subst h0
  refine Reg.wp_region_vals mixed (by kernel_rfl) [(17, .int .i64 0), (18, .bool true), (19, .bool true), (20, v.v), (21, tt.v), (22, .bool (v.eq tt)), (23, .bool (v.eq tt)), (24, .int .i64 0), (4, .bool (v.eq tt)), (5, .int .i64 0)] 25 rfl (by kernel_rfl) ?_ ?_
  · intro F hF w' hB'
    have bx' : Bx w' w1.heap.size v := bx.after hB'
    refine ⟨?_, ?_, ?_, ?_, ?_, ?_, ?_, ?_, ?_, ?_, trivial⟩
    · exact Reg.doesV_val (ev_move rfl) (by rw [hF]; kernel_rfl) (by rw [hF]; kernel_rfl)
    · exact Reg.doesV_val (ev_eqEr 0 0 rfl (by rw [hF]; kernel_rfl)) (by rw [hF]; kernel_rfl) (by rw [hF]; kernel_rfl)
    · exact Reg.doesV_val (ev_move rfl) (by rw [hF]; kernel_rfl) (by rw [hF]; kernel_rfl)
    · exact Reg.doesV_val (ev_load bx' rfl (by rw [hF]; kernel_rfl)) (by rw [hF]; kernel_rfl) (by rw [hF]; kernel_rfl)
    · exact Reg.doesV_call (rtruth9_c true w') (ev_call enrTruth9 rfl (by rw [hF]; kernel_rfl)) (by rw [hF]; kernel_rfl) (by rw [hF]; kernel_rfl)
    · exact Reg.doesV_val (ev_eq v tt rfl (by rw [hF]; kernel_rfl) (by rw [hF]; kernel_rfl)) (by rw [hF]; kernel_rfl) (by rw [hF]; kernel_rfl)
    · exact Reg.doesV_val (ev_pick true rfl (by rw [hF]; kernel_rfl)) (by rw [hF]; kernel_rfl) (by rw [hF]; kernel_rfl)
    · exact Reg.doesV_val (ev_move rfl) (by rw [hF]; kernel_rfl) (by rw [hF]; kernel_rfl)
    · exact Reg.doesV_val (ev_assign rfl) (by rw [hF]; kernel_rfl) (by rw [hF]; kernel_rfl)
    · exact Reg.doesV_val (ev_assign rfl) (by rw [hF]; kernel_rfl) (by rw [hF]; kernel_rfl)
  · intro w' hB'
    simp only [Reg.putAll, Act.put, List.setIfInBounds_toArray, List.set_cons_zero, List.set_cons_succ]
    have Hb2 := Lib.hid (Hb.out.trans (hB'.mono Hb.out.size))
    clear hB'
    go_wp2
    exact hsaid.out _ (fun _ => rfl) _ Hb2.out
theorem aft1 {X wx : World} {T : TypeId} {a b c : Value} (h : Below (X.alloc (.cells #[a, b, c] T)).heap.size (X.alloc (.cells #[a, b, c] T)) wx) :
 wx.cell? ⟨X.heap.size, 0, none⟩ = some a ∧ wx.cell? ⟨X.heap.size, 1, none⟩ = some b ∧ wx.cell? ⟨X.heap.size, 2, none⟩ = some c ∧ wx.frozen? ⟨X.heap.size, 0, none⟩ = false ∧ wx.frozen? ⟨X.heap.size, 1, none⟩ = false ∧ wx.frozen? ⟨X.heap.size, 2, none⟩ = false ∧ X.heap.size < wx.heap.size := by
 have hl : X.heap.size < (X.alloc (.cells #[a, b, c] T)).heap.size := by simp
 exact ⟨(h.cell hl).trans (by simp), (h.cell hl).trans (by simp), (h.cell hl).trans (by simp), (h.frozen (p := ⟨X.heap.size, 0, none⟩) hl).trans (by simp), (h.frozen (p := ⟨X.heap.size, 1, none⟩) hl).trans (by simp), (h.frozen (p := ⟨X.heap.size, 2, none⟩) hl).trans (by simp), Nat.lt_of_lt_of_le hl h.size⟩
theorem aft2 {X wx : World} {T : TypeId} {a b c : Value} {o : Obj} (h : Below ((X.alloc (.cells #[a, b, c] T)).alloc o).heap.size ((X.alloc (.cells #[a, b, c] T)).alloc o) wx) :
 wx.cell? ⟨X.heap.size, 0, none⟩ = some a ∧ wx.cell? ⟨X.heap.size, 1, none⟩ = some b ∧ wx.cell? ⟨X.heap.size, 2, none⟩ = some c ∧ wx.frozen? ⟨X.heap.size, 0, none⟩ = false ∧ wx.frozen? ⟨X.heap.size, 1, none⟩ = false ∧ wx.frozen? ⟨X.heap.size, 2, none⟩ = false ∧ X.heap.size < wx.heap.size := aft1 (below_via (below_one _ o) h)
theorem aft3 {X wx : World} {b : Nat} {u v z : Value} (h : wx.cell? ⟨b, 0, none⟩ = some u ∧ wx.cell? ⟨b, 1, none⟩ = some v ∧ wx.cell? ⟨b, 2, none⟩ = some z ∧ wx.frozen? ⟨b, 0, none⟩ = false ∧ wx.frozen? ⟨b, 1, none⟩ = false ∧ wx.frozen? ⟨b, 2, none⟩ = false ∧ b < wx.heap.size) (hb : Below wx.heap.size wx X) :
 X.cell? ⟨b, 0, none⟩ = some u ∧ X.cell? ⟨b, 1, none⟩ = some v ∧ X.cell? ⟨b, 2, none⟩ = some z ∧ X.frozen? ⟨b, 0, none⟩ = false ∧ X.frozen? ⟨b, 1, none⟩ = false ∧ X.frozen? ⟨b, 2, none⟩ = false ∧ b < X.heap.size :=
 ⟨(hb.cell h.2.2.2.2.2.2).trans h.1, (hb.cell h.2.2.2.2.2.2).trans h.2.1, (hb.cell h.2.2.2.2.2.2).trans h.2.2.1, (hb.frozen (p := ⟨b, 0, none⟩) h.2.2.2.2.2.2).trans h.2.2.2.1, (hb.frozen (p := ⟨b, 1, none⟩) h.2.2.2.2.2.2).trans h.2.2.2.2.1, (hb.frozen (p := ⟨b, 2, none⟩) h.2.2.2.2.2.2).trans h.2.2.2.2.2.1, Nat.lt_of_lt_of_le h.2.2.2.2.2.2 hb.size⟩
theorem aft4 {X wx : World} {T : TypeId} {a b c : Value} {o : Obj} (h : Below ((X.alloc o).alloc (.cells #[a, b, c] T)).heap.size ((X.alloc o).alloc (.cells #[a, b, c] T)) wx) :
 wx.cell? ⟨X.heap.size + 1, 0, none⟩ = some a ∧ wx.cell? ⟨X.heap.size + 1, 1, none⟩ = some b ∧ wx.cell? ⟨X.heap.size + 1, 2, none⟩ = some c ∧ wx.frozen? ⟨X.heap.size + 1, 0, none⟩ = false ∧ wx.frozen? ⟨X.heap.size + 1, 1, none⟩ = false ∧ wx.frozen? ⟨X.heap.size + 1, 2, none⟩ = false ∧ X.heap.size + 1 < wx.heap.size := by
 have h1 := aft1 h
 have hs : (X.alloc o).heap.size = X.heap.size + 1 := by simp
 rw [hs] at h1
 exact h1
set_option maxHeartbeats 4000000 in
theorem rmeets_c (x : Vq) (A B : Option Addr) (n m c d : Nat) (xs ys : List Val) (w : World) (hA : Hd.In w ⟨A, n, c, xs⟩) (hB : Hd.In w ⟨B, m, d, ys⟩) :
 Calls Tryz.prog 22 #[x.w, .slice A n c, .slice B m d] w fun e w' => e = .returned (.bool (meetB x.on0 x.on1 xs ys)) ∧ Below w.heap.size w w' := by
 have HA := Lib.hid hA
 have HB := Lib.hid hB
 clear hA hB
 have hon := (Bq.new w x).on
 obtain ⟨nm, fr, wt, o0, o1, eA, en, ec, ee, pA, pn, pc, ps, gr, aA, an, ac⟩ := x
 dsimp only [Vq.w]
 have Hb0 : Hid (Below w.heap.size w (w.alloc (.cells #[.string nm, .string fr, .string wt, .int .i64 o0, .int .i64 o1, .slice eA en ec, .slice pA pn pc, .bool gr, .slice aA an ac] 28))) := Lib.hid (below_one _ _)
 have hl : w.heap.size < (w.alloc (.cells #[.string nm, .string fr, .string wt, .int .i64 o0, .int .i64 o1, .slice eA en ec, .slice pA pn pc, .bool gr, .slice aA an ac] 28)).heap.size := by simp
 obtain ⟨q3, q4⟩ : (w.alloc (.cells #[.string nm, .string fr, .string wt, .int .i64 o0, .int .i64 o1, .slice eA en ec, .slice pA pn pc, .bool gr, .slice aA an ac] 28)).cell? ⟨w.heap.size, 3, none⟩ = some (.int .i64 o0) ∧ (w.alloc (.cells #[.string nm, .string fr, .string wt, .int .i64 o0, .int .i64 o1, .slice eA en ec, .slice pA pn pc, .bool gr, .slice aA an ac] 28)).cell? ⟨w.heap.size, 4, none⟩ = some (.int .i64 o1) := hon
 obtain ⟨y, hy⟩ : ∃ y : Val, atR xs o0 = y := ⟨_, rfl⟩
 obtain ⟨z, hz⟩ : ∃ z : Val, atR ys o1 = z := ⟨_, rfl⟩
 have Hy := Lib.hid hy
 have Hz := Lib.hid hz
 obtain ⟨M, hM⟩ : ∃ M, meetB o0 o1 xs ys = M := ⟨_, rfl⟩
 rw [hM]
 have HM : Hid ((y.eq z && !(y.k == 0)) = M) := Lib.hid (by rw [← hM, ← hy, ← hz]; rfl)
 clear hy hz hM
 obtain ⟨yk, yn, ys2⟩ := y
 obtain ⟨zk, zn, zs2⟩ := z
 go_enter Tryz.func22, Tryz.ntmps22
 go_wp2_with fail
 generalize w.alloc (.cells #[.string nm, .string fr, .string wt, .int .i64 o0, .int .i64 o1, .slice eA en ec, .slice pA pn pc, .bool gr, .slice aA an ac] 28) = W at hl q3 q4 Hb0 ⊢
 have HC : Hid (Below W.heap.size W W) := Lib.hid (Below.refl _ _)
 have HS : Hid (∀ w' : World, Below W.heap.size W w' → w'.cell? ⟨w.heap.size, 3, none⟩ = some (.int .i64 o0) ∧ w'.cell? ⟨w.heap.size, 4, none⟩ = some (.int .i64 o1)) := Lib.hid fun w' h => ⟨(h.cell hl).trans q3, (h.cell hl).trans q4⟩
 have HA := Lib.hid (HA.out.after Hb0.out)
 have HB := Lib.hid (HB.out.after Hb0.out)
 clear q3 q4
 go_upto_region 1 with fail
 go_cut [7, 8] (fun s7 s8 wx => ∃ b7 b8 : Nat, s7 = .pointer (some ⟨b7, 0, none⟩) ∧ s8 = .pointer (some ⟨b8, 0, none⟩) ∧ Hid (Below W.heap.size W wx) ∧ (wx.cell? ⟨b7, 0, none⟩ = some (.int .i64 yk) ∧ wx.cell? ⟨b7, 1, none⟩ = some (.int .i64 yn) ∧ wx.cell? ⟨b7, 2, none⟩ = some (.string ys2)) ∧ wx.cell? ⟨b8, 0, none⟩ = some (.int .i64 zk) ∧ wx.cell? ⟨b8, 1, none⟩ = some (.int .i64 zn) ∧ wx.cell? ⟨b8, 2, none⟩ = some (.string zs2))
 case first =>
  go_region_held3 (fun w' => w'.cell? ⟨w.heap.size, 3, none⟩ = some (.int .i64 o0) ∧ w'.cell? ⟨w.heap.size, 4, none⟩ = some (.int .i64 o1)) (first | with_reducible exact HS.out _ HC.out | with_reducible exact HS.out _ HC.out.drew | (with_reducible refine HS.out _ ?_; repeat' first | with_reducible refine Below.drew ?_ | with_reducible refine below_al ?_ _ | with_reducible refine Below.setCell ?_ ?_ _ | with_reducible exact HC.out | with_reducible exact HC.out.drew | (dsimp only; omega)) | go_keep)
   (first
     | (go_at_call 45
        with_reducible refine (rat_c A n c xs o0 _ HA.out.len (HA.out.sl.after (by repeat' first | with_reducible refine Below.drew ?_ | with_reducible refine below_al ?_ _ | with_reducible exact HC.out))).mono ?_
        rintro en wxa ⟨rfl, hbx⟩
        have hbx9 := below_via (Below.refl _ _).drew hbx
        replace HC : Hid (Below W.heap.size W wxa) := by
         refine Lib.hid (below_via ?_ hbx9)
         repeat' first | with_reducible refine below_al ?_ _ | with_reducible exact HC.out
        have hsa : W.heap.size ≤ wxa.heap.size := HC.out.size
        rw [Hy.out]
        first
         | (have zv := aft2 hbx9
            have zu := aft4 hbx9
            obtain ⟨zv0, zv1, zv2, zv3, zv4, zv5, zv6⟩ := id zv
            have zvn := Nat.ne_of_lt zv6
            have zvm := Nat.ne_of_gt zv6
            obtain ⟨zu0, zu1, zu2, zu3, zu4, zu5, zu6⟩ := id zu
            have zun := Nat.ne_of_lt zu6
            have zum := Nat.ne_of_gt zu6)
         | (have zu := aft1 hbx9
            obtain ⟨zu0, zu1, zu2, zu3, zu4, zu5, zu6⟩ := id zu
            have zun := Nat.ne_of_lt zu6
            have zum := Nat.ne_of_gt zu6)
         | skip
        clear hbx9
        clear hbx)
     | (go_at_call 45
        with_reducible refine (rat_c B m d ys o1 _ HB.out.len (HB.out.sl.after (by repeat' first | with_reducible refine below_al ?_ _ | with_reducible exact HC.out))).mono ?_
        rintro en wxb ⟨rfl, hbx⟩
        have hst : Below wxa.heap.size wxa wxb := by
         first
          | with_reducible exact hbx
          | (refine below_via ?_ hbx
             repeat' first | with_reducible refine below_al ?_ _ | with_reducible exact Below.refl _ _)
        replace HC : Hid (Below W.heap.size W wxb) := Lib.hid (below_via HC.out hst)
        have hsb : wxa.heap.size ≤ wxb.heap.size := hst.size
        rw [Hz.out]
        first | (have yy := aft3 zu hst; obtain ⟨yu0, yu1, yu2, yu3, yu4, yu5, yu6⟩ := yy; have yun := Nat.ne_of_lt yu6; have yum := Nat.ne_of_gt yu6) | skip
        first | (have yy := aft3 zv hst; obtain ⟨yv0, yv1, yv2, yv3, yv4, yv5, yv6⟩ := yy; have yvn := Nat.ne_of_lt yv6; have yvm := Nat.ne_of_gt yv6) | skip
        first | (have yy := aft4 hbx; obtain ⟨xu0, xu1, xu2, xu3, xu4, xu5, xu6⟩ := yy; have xun := Nat.ne_of_lt xu6; have xum := Nat.ne_of_gt xu6) | (have yy := aft1 hbx; obtain ⟨xu0, xu1, xu2, xu3, xu4, xu5, xu6⟩ := yy; have xun := Nat.ne_of_lt xu6; have xum := Nat.ne_of_gt xu6) | skip
        first | (have yy := aft2 hbx; obtain ⟨xv0, xv1, xv2, xv3, xv4, xv5, xv6⟩ := yy; have xvn := Nat.ne_of_lt xv6; have xvm := Nat.ne_of_gt xv6) | skip
        clear hbx))
  all_goals
   go_wp2
   go_meet
   refine ⟨_, _, rfl, rfl, Lib.hid ?_, ⟨?_, ?_, ?_⟩, ?_, ?_, ?_⟩
   · (repeat' first | with_reducible refine Below.drew ?_ | with_reducible refine below_al ?_ _ | with_reducible refine Below.setCell ?_ ?_ _ | with_reducible exact HC.out | with_reducible exact HC.out.drew | (dsimp only; omega))
   all_goals
    first | (go_keep; done) | (go_simp; done) | trace_state
 case rest =>
  obtain ⟨b7, b8, rfl, rfl, hbc, ⟨x0, x1, x2⟩, x3, x4, x5⟩ := hcut
  have HF := Lib.hid (Hb0.out.trans (hbc.out.mono Hb0.out.size))
  clear hbc HC HS
  cases h1 : Val.eq ⟨yk, yn, ys2⟩ ⟨zk, zn, zs2⟩
  case false =>
   obtain rfl : false = M := by rw [← HM.out, h1]; rfl
   go_wp2
   go_ret
   exact ⟨rfl, HF.out⟩
  case true =>
   cases h2 : (yk == 0)
   case false =>
    obtain rfl : true = M := by rw [← HM.out, h1]; simp [h2]
    have h3 : (yk != 0) = true := by simp [bne, h2]
    go_wp2
    go_ret
    exact ⟨rfl, HF.out⟩
   case true =>
    obtain rfl : false = M := by rw [← HM.out, h1]; simp [h2]
    have h3 : (yk != 0) = false := by simp [bne, h2]
    go_wp2
    go_ret
    exact ⟨rfl, HF.out⟩
end Go.Proofs.YtbpopkgpepmlcaaGreat
namespace Go.Proofs.YtbpopkgpepmlcaaGreat
open Go Go.RowKit
set_option maxRecDepth 100000
attribute [local go_sem ↓] Go.wp_at_zero Go.wp_at_succ
def rpickP (ps : List Int) (b : Bg) : Bg := if mayBag b && mayBag (pickB ps b) then pickB ps b else []
theorem mapB_take (F : List Val → List (List Val × Int)) (b o : Bg) (k : Nat) (x : List Val × Int) (h : b[k]? = some x) : mapB F (b.take (k + 1)) o = (F x.1).foldl (fun o y => addB o y.1 (y.2 * x.2)) (mapB F (b.take k) o) := by
 unfold mapB
 rw [List.take_add_one, h, List.foldl_append]
 rfl
set_option maxHeartbeats 8000000 in
theorem rpick10_c (x : Vq) (A : Option Addr) (n c : Nat) (cs : List Ct) (w : World) (hx : Vq.In w x) (hA : BgIn w A n cs) (hn : n ≤ 10000) (hp : x.pn ≤ 1000) :
 Calls Tryz.prog 12 #[x.w, .slice A n c] w fun e w' => ∃ A' n' c' os, e = .returned (.slice A' n' c') ∧ Below w.heap.size w w' ∧ BgIn w' A' n' os ∧ pl os = rpickP x.ps (pl cs) := by
 have HX := Lib.hid hx
 have HA := Lib.hid hA
 clear hx hA
 obtain ⟨nm, fr, wt, o0, o1, eA, en, ec, ee, pA, pn, pc, ps, gr, aA, an, ac⟩ := x
 have hb0 : Below w.heap.size w ((w.alloc (.cells #[.string nm, .string fr, .string wt, .int .i64 o0, .int .i64 o1, .slice eA en ec, .slice pA pn pc, .bool gr, .slice aA an ac] 28)).alloc (.cells #[] 44)) := below_al (below_one _ _) _
 have hq0 : Bq ((w.alloc (.cells #[.string nm, .string fr, .string wt, .int .i64 o0, .int .i64 o1, .slice eA en ec, .slice pA pn pc, .bool gr, .slice aA an ac] 28)).alloc (.cells #[] 44)) w.heap.size (⟨nm, fr, wt, o0, o1, eA, en, ec, ee, pA, pn, pc, ps, gr, aA, an, ac⟩ : Vq) := (Bq.new w (⟨nm, fr, wt, o0, o1, eA, en, ec, ee, pA, pn, pc, ps, gr, aA, an, ac⟩ : Vq)).below (below_one _ _) (by simp)
 have hl0 : w.heap.size < ((w.alloc (.cells #[.string nm, .string fr, .string wt, .int .i64 o0, .int .i64 o1, .slice eA en ec, .slice pA pn pc, .bool gr, .slice aA an ac] 28)).alloc (.cells #[] 44)).heap.size := by simp; omega
 have Hb0 := Lib.hid hb0
 have HQ := Lib.hid hq0
 have Hl := Lib.hid hl0
 clear hb0 hq0 hl0
 dsimp only [Vq.w]
 try simp only at hp
 have Hpl := Lib.hid HX.out.plen
 go_enter Tryz.func12, Tryz.ntmps12
 go_wp2_with fail
 obtain ⟨W, hW⟩ : ∃ W : World, (w.alloc (.cells #[.string nm, .string fr, .string wt, .int .i64 o0, .int .i64 o1, .slice eA en ec, .slice pA pn pc, .bool gr, .slice aA an ac] 28)).alloc (.cells #[] 44) = W := ⟨_, rfl⟩
 rw [hW] at Hb0 HQ Hl ⊢
 clear hW
 have HX := Lib.hid (HX.out.after Hb0.out)
 have HA := Lib.hid (HA.out.after Hb0.out)
 go_loopw [5, 6] (fun v q wr => ∃ (k n' : Nat) (A' : Option Addr) (c' : Nat) (os : List Ct), k ≤ n ∧ q = .int .i64 k ∧ v = .slice A' n' c' ∧ n' ≤ k ∧ Hid (Below W.heap.size W wr) ∧ Hid (BgIn wr A' n' os) ∧ Hid (pl os = mapB (pickF ps) ((pl cs).take k) []) ∧ Hid (Bd ((k : Int) * 1000000000) (pl os)) ∧ Hid (mayBag (pl cs) = true ∨ k = 0)) (fun _ q _ => n - (intOf q).toNat)
 case atStart => exact ⟨0, 0, _, 0, [], Nat.zero_le _, rfl, rfl, Nat.zero_le _, Lib.hid (Below.refl _ _), Lib.hid ⟨rfl, Nat.zero_le _, .inl rfl, nofun⟩, Lib.hid rfl, Lib.hid nofun, Lib.hid (.inr rfl)⟩
 case round =>
  obtain ⟨k, n', A', c', os, hk, rfl, rfl, hn', hb, HO, HP, HD, HK⟩ := hrel
  by_cases hlt : k < n
  · have hgo : (k : Int) < n := by omega
    go_wp2_with fail
    refine (rmayBag_c A n c cs _ (HA.out.after hb.out)).mono ?_
    rintro e w1 ⟨rfl, hb1⟩
    replace hb := Lib.hid (below_via hb.out hb1)
    replace HO := Lib.hid (HO.out.after hb1)
    clear hb1
    cases hma : mayBag (pl cs)
    case false =>
     obtain rfl : k = 0 := by
      have h9 := HK.out
      rw [hma] at h9
      rcases h9 with h9 | h9
      · cases h9
      · exact h9
     obtain rfl : os = [] := by
      have h9 := HP.out
      have h8 : pl os = [] := h9
      exact List.map_eq_nil_iff.1 h8
     have HR : Hid (pl [] = rpickP ps (pl cs)) := Lib.hid (by unfold rpickP; rw [hma]; rfl)
     clear hma
     go_wp2_with fail
     refine (rmayBag_c A' n' c' [] _ HO.out).mono ?_
     rintro e w9 ⟨rfl, hb9⟩
     have HF9 := Lib.hid (Hb0.out.trans ((below_via hb.out hb9).mono Hb0.out.size))
     have HO9 := Lib.hid (HO.out.after hb9)
     have hmo : mayBag (pl []) = true := rfl
     rw [hmo]
     clear hb9 hmo
     go_wp2
     go_ret
     exact ⟨A', n', c', [], rfl, HF9.out, HO9.out, HR.out⟩
    case true =>
     have HM := Lib.hid hma
     clear hma
     obtain ⟨b, off, rfl⟩ := HA.out.sl.some2 (k := k) (by rw [HA.out.len]; exact hlt)
     obtain ⟨y, hy⟩ : ∃ y, cs[k]? = some y := ⟨_, List.getElem?_eq_getElem (by rw [HA.out.len]; exact hlt)⟩
     obtain ⟨hblt, c0, c1⟩ := HA.out.sl.cell2 hy
     have d0 := (hb.out.cell (p := ⟨b, off + k * 2, none⟩) hblt).trans c0
     have l0 : b < w1.heap.size := Nat.lt_of_lt_of_le hblt hb.out.size
     have q6 := (HQ.out.below hb.out Hl.out).pick
     try simp only at q6
     have lq : w.heap.size < w1.heap.size := Nat.lt_of_lt_of_le Hl.out hb.out.size
     have HC1 := Lib.hid c1
     have HB1 := Lib.hid hblt
     have Hyr := Lib.hid ((HA.out.each y (List.mem_of_getElem? hy)).after hb.out)
     have HVr := Lib.hid (HX.out.after hb.out)
     have HN9 := Lib.hid (bd_may HM.out _ (pl_mem (List.mem_of_getElem? hy)))
     have Htk := Lib.hid (mapB_take (pickF ps) (pl cs) [] k _ (pl_at hy))
     clear c0 c1 hy hblt
     obtain ⟨⟨xA, xn, xc, xs⟩, N⟩ := y
     try simp only at d0
     have HC : Hid (Below w1.heap.size w1 w1) := Lib.hid (Below.refl _ _)
     have HS : Hid (∀ w' : World, Below w1.heap.size w1 w' → w'.cell? ⟨b, off + k * 2, none⟩ = some (.slice xA xn xc) ∧ w'.cell? ⟨w.heap.size, 6, none⟩ = some (.slice pA pn pc)) := Lib.hid fun w' h => ⟨(h.cell l0).trans d0, (h.cell lq).trans q6⟩
     go_wp2_with fail
     go_region_held3 (fun w' => w'.cell? ⟨b, off + k * 2, none⟩ = some (.slice xA xn xc) ∧ w'.cell? ⟨w.heap.size, 6, none⟩ = some (.slice pA pn pc)) (first | with_reducible exact HS.out _ HC.out | with_reducible exact HS.out _ HC.out.drew | go_keep)
      (first
        | (go_at_call 32
           refine (rpick4_c xA pA xn xc pn pc xs ps _ Hyr.out.hd.len Hyr.out.hd.max (Hyr.out.hd.sl.after (by first | with_reducible exact HC.out | with_reducible exact HC.out.drew)) Hpl.out (by omega) (HVr.out.psl.after (by first | with_reducible exact HC.out | with_reducible exact HC.out.drew))).mono ?_
           rintro en wx ⟨h9, ok, rfl, hbx, hIn9, hok9, hrm9⟩
           replace HC : Hid (Below w1.heap.size w1 wx) := Lib.hid (by first | exact below_via HC.out hbx | exact below_via HC.out (below_via (Below.refl _ _).drew hbx))
           have HI9 := Lib.hid hIn9
           have HK9 := Lib.hid hok9
           have HR9 := Lib.hid hrm9
           dsimp only [Hd.v]
           clear hbx hIn9 hok9 hrm9))
     all_goals
      have Hbx := Lib.hid (hb.out.trans (HC.out.mono hb.out.size))
      have HOx := Lib.hid (HO.out.after HC.out)
      clear d0 q6
      obtain ⟨hA9, hn9, hc9, hxs9⟩ := h9
      have hok := HK9.out
      unfold pickOk at hok
      have htk := Htk.out
      try simp only at htk
      cases hpr : pickR xs ps with
      | none =>
        rw [hpr] at hok
        obtain ⟨rfl, _⟩ := hok
        have HP2 : Hid (pl os = mapB (pickF ps) ((pl cs).take (k + 1)) []) := Lib.hid (by
         rw [htk, HP.out]
         unfold pickF
         rw [hpr]
         rfl)
        have HD2 : Hid (Bd (((k + 1 : Nat) : Int) * 1000000000) (pl os)) := Lib.hid fun z hz => by have := HD.out z hz; omega
        clear hpr htk
        go_wp2
        go_roundw
        case rel => exact ⟨k + 1, n', A', c', os, by omega, by go_num, rfl, by omega, Hbx, HOx, HP2, HD2, Lib.hid (.inl HM.out)⟩
        case measure => simp [intOf]; omega
      | some l =>
        rw [hpr] at hok
        obtain ⟨rfl, hl9⟩ := hok
        have hlen := HI9.out.len
        have HL9 := Lib.hid hl9
        simp only at hlen hl9
        subst hl9
        by_cases h40 : hn9 ≤ 40
        · have hF : Hid (mapB (pickF ps) ((pl cs).take (k + 1)) [] = addB (pl os) hxs9 N) := Lib.hid (by
           rw [htk, ← HP.out]
           unfold pickF
           rw [hpr]
           dsimp only
           rw [if_pos (by omega)]
           show addB (pl os) hxs9 (1 * N) = _
           rw [Int.one_mul])
          have HCt : Hid (Ct.In _ ⟨⟨hA9, hn9, hc9, hxs9⟩, N⟩) := Lib.hid ⟨HI9.out, fun v hv => Hyr.out.sz v (pick_mem hpr v hv), fun v hv => Hyr.out.n64 v (pick_mem hpr v hv), Hyr.out.N64, HR9.out⟩
          have Has : Hid (Asc (pl os)) := Lib.hid (by rw [HP.out]; exact (map_one (pickF ps) ((pl cs).take k)).1)
          have H64 : Hid (∀ z ∈ os, -9223372036854775808 ≤ N + z.N ∧ N + z.N ≤ 9223372036854775807) := Lib.hid fun z hz => by
           have h1 := HD.out _ (pl_mem hz)
           have h2 := HN9.out
           simp only [] at h1 h2
           omega
          have g1 := (Hbx.out.cell (p := ⟨b, off + k * 2 + 1, none⟩) HB1.out).trans HC1.out
          try simp only at g1
          have h41 : (hn9 : Int) ≤ 40 := by omega
          clear hpr htk hlen
          go_wp2_with fail
          refine (radd_c A' n' c' os ⟨hA9, hn9, hc9, hxs9⟩ N _ HOx.out HCt.out Has.out (by omega) H64.out).mono ?_
          rintro en w5 ⟨A5, n5, c5, os5, rfl, hb5, hI5, he5⟩
          have Hb5 := Lib.hid (below_via Hbx.out hb5)
          have HO5 := Lib.hid hI5
          have HP5 : Hid (pl os5 = mapB (pickF ps) ((pl cs).take (k + 1)) []) := Lib.hid (he5.trans hF.out.symm)
          have HD5 : Hid (Bd (((k + 1 : Nat) : Int) * 1000000000) (pl os5)) := Lib.hid (by
           rw [he5]
           have h1 := bd_add (pl os) hxs9 N ((k : Int) * 1000000000) 1000000000 HD.out (by omega) HN9.out.1 HN9.out.2
           rw [show ((k + 1 : Nat) : Int) * 1000000000 = (k : Int) * 1000000000 + 1000000000 by omega]
           exact h1)
          have hn5 : n5 ≤ k + 1 := by
           have h1 := len_add (pl os) hxs9 N
           rw [← he5, pl_len, pl_len, hI5.len, HOx.out.len] at h1
           omega
          clear hb5 hI5 he5 g1
          go_wp2
          go_roundw
          case rel => exact ⟨k + 1, n5, A5, c5, os5, by omega, by go_num, rfl, hn5, Hb5, HO5, HP5, HD5, Lib.hid (.inl HM.out)⟩
          case measure => simp [intOf]; omega
        · have HP2 : Hid (pl os = mapB (pickF ps) ((pl cs).take (k + 1)) []) := Lib.hid (by
           rw [htk, HP.out]
           unfold pickF
           rw [hpr]
           dsimp only
           rw [if_neg (by omega)]
           rfl)
          have HD2 : Hid (Bd (((k + 1 : Nat) : Int) * 1000000000) (pl os)) := Lib.hid fun z hz => by have := HD.out z hz; omega
          have h41 : ¬ (hn9 : Int) ≤ 40 := by omega
          clear hpr htk hlen
          go_wp2
          go_roundw
          case rel => exact ⟨k + 1, n', A', c', os, by omega, by go_num, rfl, by omega, Hbx, HOx, HP2, HD2, Lib.hid (.inl HM.out)⟩
          case measure => simp [intOf]; omega
  · obtain rfl : k = n := by omega
    have HM : Hid (mayBag (pl cs) = true) := Lib.hid (by
     rcases HK.out with h9 | h9
     · exact h9
     · have h8 := HA.out.len
       rw [h9] at h8
       rw [List.eq_nil_of_length_eq_zero h8]
       rfl)
    replace HP : Hid (pl os = pickB ps (pl cs)) := Lib.hid (by
     have := HP.out
     rw [List.take_of_length_le (by rw [pl_len, HA.out.len]; exact Nat.le_refl _)] at this
     exact this)
    go_wp2_with fail
    refine (rmayBag_c A' n' c' os _ HO.out).mono ?_
    rintro e w9 ⟨rfl, hb9⟩
    have HF9 := Lib.hid (Hb0.out.trans ((below_via hb.out hb9).mono Hb0.out.size))
    have HO9 := Lib.hid (HO.out.after hb9)
    clear hb9
    cases hmo : mayBag (pl os)
    case false =>
     have HR : Hid (pl [] = rpickP ps (pl cs)) := Lib.hid (by
      unfold rpickP
      rw [← HP.out, hmo, Bool.and_false]
      rfl)
     clear hmo
     go_wp2
     go_ret
     exact ⟨none, 0, 0, [], rfl, HF9.out, bgIn_nil _, HR.out⟩
    case true =>
     have HR : Hid (pl os = rpickP ps (pl cs)) := Lib.hid (by
      unfold rpickP
      rw [← HP.out, hmo, HM.out]
      rfl)
     clear hmo
     go_wp2
     go_ret
     exact ⟨A', n', c', os, rfl, HF9.out, HO9.out, HR.out⟩
end Go.Proofs.YtbpopkgpepmlcaaGreat
namespace Go.Proofs.YtbpopkgpepmlcaaGreat
open Go Go.RowKit Go.ChangeShapes Go.WideShapes Go.ChangeAt Go.Joins Go.Deep
set_option maxRecDepth 100000
theorem own : ownKnob Tryz.prog.godebug = none := by kernel_rfl
theorem laidOut : laidOutB Tryz.prog = true := by kernel_rfl
section
variable {H : Type} {enc : TypeId × Value → H}
theorem slice_gen {α : Type} [Nonempty α] {W : World} {T E : TypeId} {S : Nat} (hT : Tryz.prog.underlying T = some (.slice E)) (hS : Tryz.prog.cellsOf E = S) (hS0 : 0 < S) (rd : α → List Value) (hrd : ∀ x, (rd x).length = S) (Q : α → Prop)
 (each : ∀ (cs' : List Value) (n : Nat) (z : DataW H × List MemPlace), DataW.trod enc Tryz.prog W 0 (fun _ => true) true n E cs' = some z → ∃ x : α, cs' = rd x ∧ Q x)
 {base : Nat} {v : Value} {d : DataW H} {p : List MemPlace} (hv : Value.okWide Tryz.prog W .any base T v) (h : DataW.Trod enc Tryz.prog W 0 (fun _ => true) true T v d p) :
 ∃ (A : Option Addr) (n c : Nat) (xs : List α), v = .slice A n c ∧ xs.length = n ∧ n ≤ maxLen ∧ n ≤ c ∧ SlG W A S rd xs ∧ ∀ x ∈ xs, Q x := by
 obtain ⟨a0, len, cap, rfl⟩ := okWide_slice hT hv
 obtain ⟨fuel, hf⟩ := h
 rcases open_slice hT hf with ⟨hcs, _⟩ | ⟨a, len', cap', m, n, D, Pl, hcs, _, hl, hm, hmm, _, hi⟩
 · simp [Value.cells] at hcs
   obtain ⟨rfl, rfl, rfl⟩ := hcs
   exact ⟨none, 0, 0, [], rfl, rfl, Nat.zero_le _, Nat.zero_le _, .inl rfl, (fun x h => by cases h)⟩
 · simp [Value.cells] at hcs
   obtain ⟨rfl, rfl, rfl⟩ := hcs
   have hm' : m = cap := by rw [hmm]; rfl
   have each' : ∀ i, i < len → ∃ x : α, (∀ j u, (rd x)[j]? = some u → W.cell? (a.add (i * S + j)) = some u) ∧ Q x := by
    intro i hil
    obtain ⟨cs', hc, ht'⟩ := hi i (by omega)
    obtain ⟨x, rfl, hx⟩ := each cs' n _ ht'
    rw [hS] at hc
    obtain ⟨_, hcl, hat⟩ := World.cells?_some hc
    refine ⟨x, fun j u hju => ?_, hx⟩
    have hj : j < S := by
     have := (List.getElem?_eq_some_iff.1 hju).1
     rw [hrd] at this
     exact this
    have := hat j hj
    rw [← Go.Deep.add_add]
    rw [this]
    exact hju
   rcases Nat.eq_zero_or_pos len with h0 | h0
   · subst h0
     exact ⟨some a, 0, cap, [], rfl, rfl, Nat.zero_le _, Nat.zero_le _, .inl rfl, (fun x h => by cases h)⟩
   · have first : ∃ x u, (rd x)[0]? = some u ∧ W.cell? (a.add (0 * S + 0)) = some u := by
      obtain ⟨x, hc, _⟩ := each' 0 h0
      have : (rd x)[0]? = some ((rd x)[0]'(by rw [hrd]; exact hS0)) := List.getElem?_eq_getElem _
      exact ⟨x, _, this, hc 0 _ this⟩
     have hspot : a.spot = none := by
      obtain ⟨x, u, _, hc⟩ := first
      simpa [Addr.add] using World.cell?_spot hc
     have ha : a = ⟨a.block, a.off, none⟩ := by cases a; simp at hspot; rw [hspot]
     have hadd : ∀ j, a.add j = ⟨a.block, a.off + j, none⟩ := fun j => by
      rw [ha]; unfold Addr.add; split
      · rename_i e; subst e; rfl
      · rfl
     refine ⟨some a, len, cap, (List.range len).map fun i => if h : i < len then Classical.choose (each' i h) else Classical.choice inferInstance, rfl, by simp, by omega, hl, .inr ⟨a.block, a.off, by rw [← ha], ?_, ?_⟩, ?_⟩
     · obtain ⟨x, u, _, hc⟩ := first
       rw [hadd] at hc
       exact World.block_lt_of_cell? W ⟨a.block, a.off + (0 * S + 0), none⟩ hc
     · intro i x hx j u hju
       have hil : i < len := by
        have := (List.getElem?_eq_some_iff.1 hx).1
        simpa using this
       have hx' : Classical.choose (each' i hil) = x := by
        rw [List.getElem?_map, List.getElem?_range hil] at hx
        simpa [hil] using hx
       have hc := (Classical.choose_spec (each' i hil)).1
       rw [hx'] at hc
       have := hc j u hju
       rw [hadd, ← Nat.add_assoc] at this
       exact this
     · intro x hx
       obtain ⟨i, hi, rfl⟩ := List.mem_map.1 hx
       have hil : i < len := List.mem_range.1 hi
       rw [dif_pos hil]
       exact (Classical.choose_spec (each' i hil)).2
theorem trodAll_below {P : Program} (hl : laidOutB P = true) {W W' : World} (hb : Below W.heap.size W W') (ts : List TypeId) : ∀ (vs : List Value) (ds : List (DataW H)) (ps : List MemPlace), (ts.all fun t => P.readableRec t && decide (t < P.types.size)) = true →
 DataW.TrodAll enc P W 0 (fun _ => true) true ts vs ds ps → (∀ x ∈ ps, x.block < W.heap.size) → DataW.TrodAll enc P W' 0 (fun b => decide (b < W.heap.size)) true ts vs ds ps := by
 induction ts with
 | nil =>
   intro vs ds ps _ h _
   cases vs <;> cases ds <;> first | exact h | exact h.elim
 | cons t ts ih =>
   intro vs ds ps ht h hlt
   cases vs with
   | nil => cases ds <;> exact h.elim
   | cons v vs =>
     cases ds with
     | nil => exact h.elim
     | cons d ds =>
       obtain ⟨p, q, h1, h2, rfl⟩ := h
       simp only [List.all_cons, Bool.and_eq_true, decide_eq_true_eq] at ht
       exact ⟨p, q, Below.trod hl ht.1.1 ht.1.2 h1 hb (fun x hx => hlt x (List.mem_append_left _ hx)), ih vs ds q ht.2 h2 (fun x hx => hlt x (List.mem_append_right _ hx)), rfl⟩
theorem law_post {f : Func} {s : ChangeSpec} {W W' : World} {args : Array Value} {ds gs : List (DataW H)} {before : List MemPlace}
 (hW : DataW.Whole enc Tryz.prog f.params.toList s.vars false W args.toList ds gs before) (hb : Below W.heap.size W W') (hvars : s.vars = []) (hp : (f.params.toList.all fun t => Tryz.prog.readableRec t && decide (t < Tryz.prog.types.size)) = true)
 (hr : f.resultTypes = #[4]) (hs : s.fn H (ds ++ gs) = { results := [.lit (.bool true)], args := ds }) : s.post enc Tryz.prog f false true false false W args (.bool true) W' := by
 have hlt : ∀ p ∈ before, p.block < W.heap.size := fun p hp => hW.lt p hp
 have hW0 := hW
 obtain ⟨p, q, hA, hV, rfl, _, _⟩ := hW
 rw [hvars] at hV
 obtain ⟨rfl, rfl⟩ := trodVars_none hV
 refine ⟨ds, [], _, [], p, [], hW0, ?_, ?_, ?_, ?_, fun h => by cases h⟩
 · rw [hs, hr]
   exact trodAll_mk1 (shut_bool Tryz.underlying4 _)
 · rw [hs]
   exact trodAll_below laidOut hb _ _ _ _ hp hA (fun x hx => hlt x (List.mem_append_left _ hx))
 · rw [hs, hvars]; rfl
 · exact hb.frame _
end
end Go.Proofs.YtbpopkgpepmlcaaGreat
namespace Go.Proofs.YtbpopkgpepmlcaaGreat
open Go Go.RowKit Go.ChangeShapes Go.WideShapes Go.ChangeAt Go.Joins Go.Deep
set_option maxRecDepth 100000
section
variable {H : Type} {enc : TypeId × Value → H}
theorem slice_cells {α : Type} [Nonempty α] {W : World} {T E : TypeId} {S : Nat} (hT : Tryz.prog.underlying T = some (.slice E)) (hS : Tryz.prog.cellsOf E = S) (hS0 : 0 < S) (rd : α → List Value) (hrd : ∀ x, (rd x).length = S) (Q : α → Prop)
 (each : ∀ (cs' : List Value) (n : Nat) (z : DataW H × List MemPlace), DataW.trod enc Tryz.prog W 0 (fun _ => true) true n E cs' = some z → ∃ x : α, cs' = rd x ∧ Q x)
 {fuel : Nat} {cs : List Value} {z : DataW H × List MemPlace} (hf : DataW.trod enc Tryz.prog W 0 (fun _ => true) true fuel T cs = some z) :
 ∃ (A : Option Addr) (n c : Nat) (xs : List α), cs = [.slice A n c] ∧ xs.length = n ∧ n ≤ maxLen ∧ n ≤ c ∧ SlG W A S rd xs ∧ ∀ x ∈ xs, Q x := by
 rcases open_slice hT hf with ⟨hcs, _⟩ | ⟨a, len, cap, m, n, D, Pl, hcs, _, hl, hm, hmm, _, hi⟩
 · subst hcs
   exact ⟨none, 0, 0, [], rfl, rfl, Nat.zero_le _, Nat.zero_le _, .inl rfl, (fun x h => by cases h)⟩
 · subst hcs
   have hm' : m = cap := by rw [hmm]; rfl
   have each' : ∀ i, i < len → ∃ x : α, (∀ j u, (rd x)[j]? = some u → W.cell? (a.add (i * S + j)) = some u) ∧ Q x := by
    intro i hil
    obtain ⟨cs', hc, ht'⟩ := hi i (by omega)
    obtain ⟨x, rfl, hx⟩ := each cs' n _ ht'
    rw [hS] at hc
    obtain ⟨_, hcl, hat⟩ := World.cells?_some hc
    refine ⟨x, fun j u hju => ?_, hx⟩
    have hj : j < S := by
     have := (List.getElem?_eq_some_iff.1 hju).1
     rw [hrd] at this
     exact this
    have := hat j hj
    rw [← Go.Deep.add_add]
    rw [this]
    exact hju
   rcases Nat.eq_zero_or_pos len with h0 | h0
   · subst h0
     exact ⟨some a, 0, cap, [], rfl, rfl, Nat.zero_le _, Nat.zero_le _, .inl rfl, (fun x h => by cases h)⟩
   · have first : ∃ x u, (rd x)[0]? = some u ∧ W.cell? (a.add (0 * S + 0)) = some u := by
      obtain ⟨x, hc, _⟩ := each' 0 h0
      have : (rd x)[0]? = some ((rd x)[0]'(by rw [hrd]; exact hS0)) := List.getElem?_eq_getElem _
      exact ⟨x, _, this, hc 0 _ this⟩
     have hspot : a.spot = none := by
      obtain ⟨x, u, _, hc⟩ := first
      simpa [Addr.add] using World.cell?_spot hc
     have ha : a = ⟨a.block, a.off, none⟩ := by cases a; simp at hspot; rw [hspot]
     have hadd : ∀ j, a.add j = ⟨a.block, a.off + j, none⟩ := fun j => by
      rw [ha]; unfold Addr.add; split
      · rename_i e; subst e; rfl
      · rfl
     refine ⟨some a, len, cap, (List.range len).map fun i => if h : i < len then Classical.choose (each' i h) else Classical.choice inferInstance, rfl, by simp, by omega, hl, .inr ⟨a.block, a.off, by rw [← ha], ?_, ?_⟩, ?_⟩
     · obtain ⟨x, u, _, hc⟩ := first
       rw [hadd] at hc
       exact World.block_lt_of_cell? W ⟨a.block, a.off + (0 * S + 0), none⟩ hc
     · intro i x hx j u hju
       have hil : i < len := by
        have := (List.getElem?_eq_some_iff.1 hx).1
        simpa using this
       have hx' : Classical.choose (each' i hil) = x := by
        rw [List.getElem?_map, List.getElem?_range hil] at hx
        simpa [hil] using hx
       have hc := (Classical.choose_spec (each' i hil)).1
       rw [hx'] at hc
       have := hc j u hju
       rw [hadd, ← Nat.add_assoc] at this
       exact this
     · intro x hx
       obtain ⟨i, hi, rfl⟩ := List.mem_map.1 hx
       have hil : i < len := List.mem_range.1 hi
       rw [dif_pos hil]
       exact (Classical.choose_spec (each' i hil)).2
end
end Go.Proofs.YtbpopkgpepmlcaaGreat
namespace Go.Proofs.YtbpopkgpepmlcaaGreat
open Go Go.RowKit Go.ChangeShapes Go.WideShapes Go.ChangeAt Go.Joins Go.Deep
set_option maxRecDepth 100000
section
variable {H : Type} {enc : TypeId × Value → H}
instance : Nonempty Val := ⟨nl⟩
instance : Nonempty Hd := ⟨⟨none, 0, 0, []⟩⟩
theorem cells_val {W : World} {m : Nat} {cs : List Value} {z : DataW H × List MemPlace} (h : DataW.trod enc Tryz.prog W 0 (fun _ => true) true m 46 cs = some z) :
 ∃ x : Val, cs = [.int .i64 x.k, .int .i64 x.n, .string x.s] ∧ x.s.size ≤ maxLen ∧ -9223372036854775808 ≤ x.n ∧ x.n ≤ 9223372036854775807 := by
 obtain ⟨ys, n, _, _, hcl, hlen, hf⟩ := DataW.trod_struct Tryz.underlying46 h
 have h3 : Tryz.prog.cellsOf 46 = 3 := by kernel_rfl
 rw [h3] at hcl
 match cs, hcl with
 | [a, b, c], _ =>
   have get : ∀ (j : Nat) (hj : j < 3), ys[j]? = some (ys[j]'(by rw [hlen]; exact hj)) := fun j hj => List.getElem?_eq_getElem _
   have h0 := (hf 0 _ rfl).trans (get 0 (by omega))
   have h1 := (hf 1 _ rfl).trans (get 1 (by omega))
   have h2 := (hf 2 _ rfl).trans (get 2 (by omega))
   obtain ⟨k, e0, _, _⟩ := DataW.trod_int Tryz.underlying3 h0
   obtain ⟨x, e1, _, wx⟩ := DataW.trod_int Tryz.underlying3 h1
   obtain ⟨s, e2, _, hs⟩ := DataW.trod_string Tryz.underlying9 h2
   have c3 : Tryz.prog.cellsOf 3 = 1 := by kernel_rfl
   have c9 : Tryz.prog.cellsOf 9 = 1 := by kernel_rfl
   simp [c3, c9] at e0 e1 e2
   subst e0 e1 e2
   have hx : -9223372036854775808 ≤ x ∧ x ≤ 9223372036854775807 := by simpa [Lit.wf, IntKind.min, IntKind.max, IntKind.signed, IntKind.bits] using wx
   exact ⟨⟨k, x, s⟩, rfl, hs, hx⟩
theorem cells_row {W : World} {m : Nat} {cs : List Value} {z : DataW H × List MemPlace} (h : DataW.trod enc Tryz.prog W 0 (fun _ => true) true m 42 cs = some z) : ∃ x : Hd, cs = rdH x ∧ ∀ N : Int, -9223372036854775808 ≤ N → N ≤ 9223372036854775807 → Ct.In W ⟨x, N⟩ := by
 obtain ⟨A, n, c, xs, h1, h2, h3, h4, h5, h6⟩ := slice_cells (α := Val) Tryz.underlying42 (S := 3) (by kernel_rfl) (by decide) rdV (fun _ => rfl) (fun x => x.s.size ≤ maxLen ∧ -9223372036854775808 ≤ x.n ∧ x.n ≤ 9223372036854775807) (fun cs n z hz => cells_val hz) h
 exact ⟨⟨A, n, c, xs⟩, h1, fun N hN0 hN1 => ⟨⟨h2, h3, h5.sl⟩, fun x hx => (h6 x hx).1, fun x hx => (h6 x hx).2, ⟨hN0, hN1⟩, h4⟩⟩
theorem row_of {W : World} {base : Nat} {v : Value} {d : DataW H} {p : List MemPlace} (hv : Value.okWide Tryz.prog W .any base 42 v) (h : DataW.Trod enc Tryz.prog W 0 (fun _ => true) true 42 v d p) :
 ∃ x : Hd, v = x.v ∧ ∀ N : Int, -9223372036854775808 ≤ N → N ≤ 9223372036854775807 → Ct.In W ⟨x, N⟩ := by
 obtain ⟨A, n, c, xs, h1, h2, h3, h4, h5, h6⟩ := slice_gen (α := Val) Tryz.underlying42 (S := 3) (by kernel_rfl) (by decide) rdV (fun _ => rfl) (fun x => x.s.size ≤ maxLen ∧ -9223372036854775808 ≤ x.n ∧ x.n ≤ 9223372036854775807) (fun cs n z hz => cells_val hz) hv h
 exact ⟨⟨A, n, c, xs⟩, h1, fun N hN0 hN1 => ⟨⟨h2, h3, h5.sl⟩, fun x hx => (h6 x hx).1, fun x hx => (h6 x hx).2, ⟨hN0, hN1⟩, h4⟩⟩
instance : Nonempty Ct := ⟨⟨⟨none, 0, 0, []⟩, 0⟩⟩
theorem cells_ct {W : World} {m : Nat} {cs : List Value} {z : DataW H × List MemPlace} (h : DataW.trod enc Tryz.prog W 0 (fun _ => true) true m 44 cs = some z) : ∃ x : Ct, cs = rdC x ∧ Ct.In W x := by
 obtain ⟨ys, n, _, _, hcl, hlen, hf⟩ := DataW.trod_struct Tryz.underlying44 h
 have h3 : Tryz.prog.cellsOf 44 = 2 := by kernel_rfl
 rw [h3] at hcl
 match cs, hcl with
 | [a, b], _ =>
   have get : ∀ (j : Nat) (hj : j < 2), ys[j]? = some (ys[j]'(by rw [hlen]; exact hj)) := fun j hj => List.getElem?_eq_getElem _
   have h0 := (hf 0 _ rfl).trans (get 0 (by omega))
   have h1 := (hf 1 _ rfl).trans (get 1 (by omega))
   obtain ⟨x, e0, hx⟩ := cells_row h0
   obtain ⟨N, e1, _, wx⟩ := DataW.trod_int Tryz.underlying3 h1
   have c3 : Tryz.prog.cellsOf 3 = 1 := by kernel_rfl
   have cR : Tryz.prog.cellsOf 42 = 1 := by kernel_rfl
   simp [c3, cR, rdH] at e0 e1
   subst e0 e1
   have hN : -9223372036854775808 ≤ N ∧ N ≤ 9223372036854775807 := by simpa [Lit.wf, IntKind.min, IntKind.max, IntKind.signed, IntKind.bits] using wx
   exact ⟨⟨x, N⟩, rfl, hx N hN.1 hN.2⟩
theorem bag_of {W : World} {base : Nat} {v : Value} {d : DataW H} {p : List MemPlace} (hv : Value.okWide Tryz.prog W .any base 30 v) (h : DataW.Trod enc Tryz.prog W 0 (fun _ => true) true 30 v d p) :
 ∃ (A : Option Addr) (n c : Nat) (cs : List Ct), v = .slice A n c ∧ BgIn W A n cs := by
 obtain ⟨A, n, c, cs, h1, h2, h3, h4, h5, h6⟩ := slice_gen (α := Ct) Tryz.underlying30 (S := 2) (by kernel_rfl) (by decide) rdC (fun _ => rfl) (fun x => Ct.In W x) (fun cs n z hz => cells_ct hz) hv h
 exact ⟨A, n, c, cs, h1, ⟨h2, h3, h5, h6⟩⟩
instance : Nonempty Nd := ⟨⟨0, 0, nl⟩⟩
theorem cells_nd {W : World} {m : Nat} {cs : List Value} {z : DataW H × List MemPlace} (h : DataW.trod enc Tryz.prog W 0 (fun _ => true) true m 48 cs = some z) :
 ∃ x : Nd, cs = x.cells.toList ∧ x.v.s.size ≤ maxLen ∧ -9223372036854775808 ≤ x.v.n ∧ x.v.n ≤ 9223372036854775807 := by
 obtain ⟨ys, n, _, _, hcl, hlen, hf⟩ := DataW.trod_struct Tryz.underlying48 h
 have hN : Tryz.prog.cellsOf 48 = 5 := by kernel_rfl
 rw [hN] at hcl
 match cs, hcl with
 | [a0, a1, a2, a3, a4], _ =>
   have get : ∀ (j : Nat) (hj : j < 3), ys[j]? = some (ys[j]'(by rw [hlen]; exact hj)) := fun j hj => List.getElem?_eq_getElem _
   have c3 : Tryz.prog.cellsOf 3 = 1 := by kernel_rfl
   have d0 : Tryz.prog.cellsOf 46 = 3 := by kernel_rfl
   have h0 := (hf 0 _ rfl).trans (get 0 (by omega))
   obtain ⟨o, e0, _, w0⟩ := DataW.trod_int Tryz.underlying3 h0
   have h1 := (hf 1 _ rfl).trans (get 1 (by omega))
   obtain ⟨x, e1, _, w1⟩ := DataW.trod_int Tryz.underlying3 h1
   have h2 := (hf 2 _ rfl).trans (get 2 (by omega))
   obtain ⟨v, e2, hs, hz⟩ := cells_val h2
   simp [c3, d0] at e0 e1 e2
   obtain ⟨rfl, rfl, rfl⟩ := e2
   subst e0 e1
   exact ⟨⟨o, x, v⟩, rfl, hs, hz⟩
theorem cells_int {W : World} {m : Nat} {cs : List Value} {z : DataW H × List MemPlace} (h : DataW.trod enc Tryz.prog W 0 (fun _ => true) true m 3 cs = some z) : ∃ x : Int, cs = rdI x ∧ True := by
 obtain ⟨o, e0, _, w0⟩ := DataW.trod_int Tryz.underlying3 h
 exact ⟨o, e0, trivial⟩
theorem cells_on {W : World} {m : Nat} {cs : List Value} {z : DataW H × List MemPlace} (h : DataW.trod enc Tryz.prog W 0 (fun _ => true) true m 22 cs = some z) : ∃ x y : Int, cs = [.int .i64 x, .int .i64 y] := by
 obtain ⟨ys, n, _, _, hcl, hlen, hf⟩ := DataW.trod_array Tryz.underlying22 h
 have c3 : Tryz.prog.cellsOf 3 = 1 := by kernel_rfl
 have hN : Tryz.prog.cellsOf 22 = 2 := by kernel_rfl
 rw [hN] at hcl
 match cs, hcl with
 | [a0, a1], _ =>
   have h0 := (hf 0 (by omega)).trans (List.getElem?_eq_getElem (by omega))
   have h1 := (hf 1 (by omega)).trans (List.getElem?_eq_getElem (by omega))
   obtain ⟨x, e0, _, w0⟩ := DataW.trod_int Tryz.underlying3 h0
   obtain ⟨y, e1, _, w1⟩ := DataW.trod_int Tryz.underlying3 h1
   simp [c3] at e0 e1
   subst e0 e1
   exact ⟨x, y, rfl⟩
theorem cells_any {W : World} {m : Nat} {T E : TypeId} {cs : List Value} {z : DataW H × List MemPlace} (hT : Tryz.prog.underlying T = some (.slice E)) (h : DataW.trod enc Tryz.prog W 0 (fun _ => true) true m T cs = some z) : ∃ (A : Option Addr) (n c : Nat), cs = [.slice A n c] := by
 rcases DataW.trod_slice hT h with ⟨hc, _⟩ | ⟨a, len, cap, elems, rest, n', _, hc, _⟩
 · exact ⟨none, 0, 0, hc⟩
 · exact ⟨some a, len, cap, hc⟩
theorem cells_vw {W : World} {m : Nat} {cs : List Value} {z : DataW H × List MemPlace} (h : DataW.trod enc Tryz.prog W 0 (fun _ => true) true m 28 cs = some z) :
 ∃ x : Vq, cs = x.cells.toList ∧ Vq.In W x ∧ ∀ y ∈ x.e, -9223372036854775808 ≤ y.v.n ∧ y.v.n ≤ 9223372036854775807 := by
 obtain ⟨ys, n, _, _, hcl, hlen, hf⟩ := DataW.trod_struct Tryz.underlying28 h
 have hN : Tryz.prog.cellsOf 28 = 9 := by kernel_rfl
 rw [hN] at hcl
 match cs, hcl with
 | [a0, a1, a2, a3, a4, a5, a6, a7, a8], _ =>
   have get : ∀ (j : Nat) (hj : j < 8), ys[j]? = some (ys[j]'(by rw [hlen]; exact hj)) := fun j hj => List.getElem?_eq_getElem _
   have c9 : Tryz.prog.cellsOf 9 = 1 := by kernel_rfl
   have c4 : Tryz.prog.cellsOf 4 = 1 := by kernel_rfl
   have d0 : Tryz.prog.cellsOf 22 = 2 := by kernel_rfl
   have d1 : Tryz.prog.cellsOf 24 = 1 := by kernel_rfl
   have d2 : Tryz.prog.cellsOf 25 = 1 := by kernel_rfl
   have d3 : Tryz.prog.cellsOf 26 = 1 := by kernel_rfl
   have h0 := (hf 0 _ rfl).trans (get 0 (by omega))
   obtain ⟨nm, e0, _, w0⟩ := DataW.trod_string Tryz.underlying9 h0
   have h1 := (hf 1 _ rfl).trans (get 1 (by omega))
   obtain ⟨fr, e1, _, w1⟩ := DataW.trod_string Tryz.underlying9 h1
   have h2 := (hf 2 _ rfl).trans (get 2 (by omega))
   obtain ⟨wt, e2, _, w2⟩ := DataW.trod_string Tryz.underlying9 h2
   have h3 := (hf 3 _ rfl).trans (get 3 (by omega))
   obtain ⟨on0, on1, e3⟩ := cells_on h3
   have h4 := (hf 4 _ rfl).trans (get 4 (by omega))
   obtain ⟨eA, en, ec, ee, e4, i4, i5, i6, i7, i8⟩ := slice_cells (α := Nd) Tryz.underlying24 (S := 5) (by kernel_rfl) (by decide) (fun x => x.cells.toList) (fun _ => rfl) (fun x => x.v.s.size ≤ maxLen ∧ -9223372036854775808 ≤ x.v.n ∧ x.v.n ≤ 9223372036854775807) (fun cs n z hz => cells_nd hz) h4
   have h5 := (hf 5 _ rfl).trans (get 5 (by omega))
   obtain ⟨pA, pn, pc, ps, e5, j4, j5, j6, j7, j8⟩ := slice_cells (α := Int) Tryz.underlying25 (S := 1) (by kernel_rfl) (by decide) rdI (fun _ => rfl) (fun _ => True) (fun cs n z hz => cells_int hz) h5
   have h6 := (hf 6 _ rfl).trans (get 6 (by omega))
   obtain ⟨gr, e6, _⟩ := DataW.trod_bool Tryz.underlying4 h6
   have h7 := (hf 7 _ rfl).trans (get 7 (by omega))
   obtain ⟨aA, an, ac, e7⟩ := cells_any Tryz.underlying26 h7
   simp [c9, c4, d0, d1, d2, d3] at e0 e1 e2 e3 e4 e5 e6 e7
   obtain ⟨rfl, rfl⟩ := e3
   subst e0 e1 e2 e4 e5 e6 e7
   refine ⟨⟨nm, fr, wt, on0, on1, eA, en, ec, ee, pA, pn, pc, ps, gr, aA, an, ac⟩, rfl, ⟨i4, i5, ?_, fun y hy => (i8 y hy).1, j4, j5, j7⟩, fun y hy => (i8 y hy).2⟩
   rcases i7 with h | ⟨b, off, hA, hlt, hc⟩
   · exact .inl h
   · exact .inr ⟨b, off, hA, hlt, fun i x hx => ⟨hc i x hx 0 _ rfl, hc i x hx 1 _ rfl, hc i x hx 2 _ rfl, hc i x hx 3 _ rfl, hc i x hx 4 _ rfl⟩⟩
theorem view64_of {W : World} {base : Nat} {v : Value} {d : DataW H} {p : List MemPlace} (hv : Value.okWide Tryz.prog W .any base 28 v) (h : DataW.Trod enc Tryz.prog W 0 (fun _ => true) true 28 v d p) :
 ∃ x : Vq, v = x.w ∧ Vq.In W x ∧ ∀ y ∈ x.e, -9223372036854775808 ≤ y.v.n ∧ y.v.n ≤ 9223372036854775807 := by
 obtain ⟨cs, rfl, _⟩ := okWide_struct Tryz.underlying28 hv
 obtain ⟨fuel, hf⟩ := h
 obtain ⟨x, hx, h1, h2⟩ := cells_vw hf
 refine ⟨x, ?_, h1, h2⟩
 have e : cs = x.cells := by
  have : cs.toList = x.cells.toList := hx
  exact Array.toList_inj.1 this
 rw [e]
 rfl
theorem view_of {W : World} {base : Nat} {v : Value} {d : DataW H} {p : List MemPlace} (hv : Value.okWide Tryz.prog W .any base 28 v) (h : DataW.Trod enc Tryz.prog W 0 (fun _ => true) true 28 v d p) :
 ∃ x : Vq, v = x.w ∧ Vq.In W x := by
 obtain ⟨x, e, h1, _⟩ := view64_of hv h
 exact ⟨x, e, h1⟩
theorem cells_bag {W : World} {m : Nat} {cs : List Value} {z : DataW H × List MemPlace} (h : DataW.trod enc Tryz.prog W 0 (fun _ => true) true m 30 cs = some z) : ∃ (A : Option Addr) (n c : Nat) (xs : List Ct), cs = [.slice A n c] ∧ BgIn W A n xs := by
 obtain ⟨A, n, c, xs, h1, h2, h3, h4, h5, h6⟩ := slice_cells (α := Ct) Tryz.underlying30 (S := 2) (by kernel_rfl) (by decide) rdC (fun _ => rfl) (fun x => Ct.In W x) (fun cs n z hz => cells_ct hz) h
 exact ⟨A, n, c, xs, h1, ⟨h2, h3, h5, h6⟩⟩
end
end Go.Proofs.YtbpopkgpepmlcaaGreat
