/-
  Part 8 of 8 of what the proof leans on: each part below says what it proves, and of what; no condition besides.
-/
import Derived.Test.YtamekagminbejaaGreatDoorQ07
import Derived.Test.YtamekagminbejaaGreatDoorRows
import Derived.ProofKit
import Derived.OpenShut
import Derived.Deep.DeepHandedRow
import Derived.Lib.LaidTab
import Derived.Lib.LaidU8
import Derived.Lib.SmallJoins
import Derived.Deep.Slices
import Derived.Deep.Fields
import Derived.ChangeSame
import Derived.ChangeMaps5
import Derived.Lay
import Derived.Below
import Derived.Test.YtamekagminbejaaGreatDoorCards
import Derived.Test.YtamekagminbejaaGreatDoorTie
import Derived.Stop.LaidErr
set_option linter.unusedVariables false
set_option linter.unusedSimpArgs false
namespace Go.Proofs.YtamekagminbejaaGreatDoor
open Go Go.RowKit
set_option maxRecDepth 100000
attribute [local go_sem ↓] Go.wp_at_zero Go.wp_at_succ
theorem Gw.up9 {w w' : World} (h : Gw w.heap.size w) (hb : Below w.heap.size w w') : Gw w'.heap.size w' := (h.below hb).up hb.size
theorem add_ok {ds : List Df} {d : Df} {w w' : World} {e : Ending} (h : AddA ds d w e w') (h1 : mayC okD typeR ds = true) (h2 : wrongE okD typeR (envF [] ds) d = 0) :
 Below w.heap.size w w' ∧ ∃ (A : Option Addr) (n c : Nat), e = .returned (.tuple #[.slice A n c, .int .i64 0]) ∧ CtA w' A n c (ds ++ [d]) := by
 obtain ⟨hb, ⟨_, _, h⟩ | ⟨m, hm, _, ⟨h, _⟩ | ⟨_, h⟩⟩⟩ := h
 · exact ⟨hb, h⟩
 · rw [h1] at h; cases h
 · exact (hm (h.trans h2)).elim
theorem add_bad {ds : List Df} {d : Df} {w w' : World} {e : Ending} {m : Int} (h : AddA ds d w e w') (h1 : mayC okD typeR ds = true) (h2 : wrongE okD typeR (envF [] ds) d = m) (hm : m ≠ 0) :
 Below w.heap.size w w' ∧ e = .returned (.tuple #[.slice none 0 0, .int .i64 m]) := by
 obtain ⟨hb, ⟨_, h, _⟩ | ⟨n, _, he, ⟨h, _⟩ | ⟨_, h⟩⟩⟩ := h
 · exact (hm (h2.symm.trans h)).elim
 · rw [h1] at h; cases h
 · rw [h, h2] at he
   exact ⟨hb, he⟩
set_option maxHeartbeats 8000000 in
theorem fixed9_c (w : World) (hG : Gw w.heap.size w) : Calls Tryz.prog 8 #[] w fun e w' => e = .returned (.bool true) ∧ Below w.heap.size w w' := by
 have HG := Lib.hid hG
 have HB : Hid (Below w.heap.size w w) := Lib.hid (Below.refl _ _)
 clear hG
 go_enter Tryz.func8, Tryz.ntmps8
 have HT := Lib.hid (mktA_c (ba [116]) emp w (by decide) (by decide))
 go_wp2_with fail
 refine HT.out.mono ?_
 rintro e t1 ⟨x1, rfl, hi, ha, hd, hb⟩
 replace HB := Lib.hid (below_via HB.out hb)
 have Hi := Lib.hid (And.intro hi ha)
 have Hd := Lib.hid hd
 clear hi ha hd hb HT
 have HA := Lib.hid (addA_c x1 none 0 0 [] t1 (cta_nil _) Hi.out.1 Hi.out.2 (HG.out.up9 HB.out))
 rw [Hd.out] at HA
 go_wp2_with fail
 refine HA.out.mono ?_
 intro e w1 h
 obtain ⟨hb, A1, n1, k1, he, hC⟩ := add_ok h rfl wr1
 subst he
 obtain rfl : n1 = 1 := hC.len.symm
 have HC1 : Hid (CtA w1 A1 1 k1 c1F) := Lib.hid hC
 replace HB := Lib.hid (below_via HB.out hb)
 clear hb hC h HA Hi Hd
 have HT := Lib.hid (mkvA_c (ba [118]) (ba [116]) w1 (by decide) (by decide))
 go_wp2_with fail
 refine HT.out.mono ?_
 rintro e t2 ⟨x2, rfl, hi, ha, hd, hb⟩
 replace HC1 := Lib.hid (HC1.out.after hb)
 replace HB := Lib.hid (below_via HB.out hb)
 have Hi := Lib.hid (And.intro hi ha)
 have Hd := Lib.hid hd
 clear hi ha hd hb HT
 have HA := Lib.hid (addA_c x2 A1 1 k1 c1F t2 HC1.out Hi.out.1 Hi.out.2 (HG.out.up9 HB.out))
 rw [Hd.out] at HA
 go_wp2_with fail
 refine HA.out.mono ?_
 intro e w2 h
 obtain ⟨hb, A2, n2, k2, he, hC⟩ := add_ok h may1 wr2
 subst he
 obtain rfl : n2 = 2 := hC.len.symm
 have HC2 : Hid (CtA w2 A2 2 k2 c2F) := Lib.hid hC
 replace HC1 := Lib.hid (HC1.out.after hb)
 replace HB := Lib.hid (below_via HB.out hb)
 clear hb hC h HA Hi Hd
 have HK := Lib.hid (kindsA_c A2 2 k2 c2F (ba [118]) w2 HC2.out (HG.out.up9 HB.out))
 go_wp2_with fail
 refine HK.out.mono ?_
 rintro e w3 ⟨hb, X, Y, ok, rfl, hX, hY, ⟨rfl, hm, q, hq, hXq, hYq⟩ | ⟨_, _, _, h | h⟩⟩
 case inr.inl => rw [may2] at h; cases h
 case inr.inr => rw [kinds2] at h; cases h
 rw [kinds2] at hq
 obtain rfl := Option.some.inj hq
 have HX : Hid (X.In w3 1 rdI) := Lib.hid hX
 have HY : Hid (Y.In w3 1 rdB) := Lib.hid hY
 have HXq := Lib.hid hXq
 have HYq := Lib.hid hYq
 replace HC1 := Lib.hid (HC1.out.after hb)
 replace HC2 := Lib.hid (HC2.out.after hb)
 replace HB := Lib.hid (below_via HB.out hb)
 clear hb hX hY hXq hYq hq HK hm
 have HT := Lib.hid (mktA_c (ba [116]) emp w3 (by decide) (by decide))
 go_wp2_with fail
 refine HT.out.mono ?_
 rintro e t4 ⟨x4, rfl, hi, ha, hd, hb⟩
 replace HC1 := Lib.hid (HC1.out.after hb)
 replace HC2 := Lib.hid (HC2.out.after hb)
 replace HX := Lib.hid (HX.out.after hb)
 replace HY := Lib.hid (HY.out.after hb)
 replace HB := Lib.hid (below_via HB.out hb)
 have Hi := Lib.hid (And.intro hi ha)
 have Hd := Lib.hid hd
 clear hi ha hd hb HT
 have HA := Lib.hid (addA_c x4 A1 1 k1 c1F t4 HC1.out Hi.out.1 Hi.out.2 (HG.out.up9 HB.out))
 rw [Hd.out] at HA
 go_wp2_with fail
 refine HA.out.mono ?_
 intro e w4 h
 obtain ⟨hb, he⟩ := add_bad h may1 wr3 (by decide)
 subst he
 replace HC1 := Lib.hid (HC1.out.after hb)
 replace HC2 := Lib.hid (HC2.out.after hb)
 replace HX := Lib.hid (HX.out.after hb)
 replace HY := Lib.hid (HY.out.after hb)
 replace HB := Lib.hid (below_via HB.out hb)
 clear hb h HA Hi Hd
 have HT := Lib.hid (mktA_c (ba [117]) (ba [120]) w4 (by decide) (by decide))
 go_wp2_with fail
 refine HT.out.mono ?_
 rintro e t5 ⟨x5, rfl, hi, ha, hd, hb⟩
 replace HC1 := Lib.hid (HC1.out.after hb)
 replace HC2 := Lib.hid (HC2.out.after hb)
 replace HX := Lib.hid (HX.out.after hb)
 replace HY := Lib.hid (HY.out.after hb)
 replace HB := Lib.hid (below_via HB.out hb)
 have Hi := Lib.hid (And.intro hi ha)
 have Hd := Lib.hid hd
 clear hi ha hd hb HT
 have HA := Lib.hid (addA_c x5 A1 1 k1 c1F t5 HC1.out Hi.out.1 Hi.out.2 (HG.out.up9 HB.out))
 rw [Hd.out] at HA
 go_wp2_with fail
 refine HA.out.mono ?_
 intro e w5 h
 obtain ⟨hb, he⟩ := add_bad h may1 wr4 (by decide)
 subst he
 replace HC1 := Lib.hid (HC1.out.after hb)
 replace HC2 := Lib.hid (HC2.out.after hb)
 replace HX := Lib.hid (HX.out.after hb)
 replace HY := Lib.hid (HY.out.after hb)
 replace HB := Lib.hid (below_via HB.out hb)
 clear hb h HA Hi Hd
 have HT := Lib.hid (mkvA_c (ba [118]) (ba [120]) w5 (by decide) (by decide))
 go_wp2_with fail
 refine HT.out.mono ?_
 rintro e t6 ⟨x6, rfl, hi, ha, hd, hb⟩
 replace HC1 := Lib.hid (HC1.out.after hb)
 replace HC2 := Lib.hid (HC2.out.after hb)
 replace HX := Lib.hid (HX.out.after hb)
 replace HY := Lib.hid (HY.out.after hb)
 replace HB := Lib.hid (below_via HB.out hb)
 have Hi := Lib.hid (And.intro hi ha)
 have Hd := Lib.hid hd
 clear hi ha hd hb HT
 have HA := Lib.hid (addA_c x6 A1 1 k1 c1F t6 HC1.out Hi.out.1 Hi.out.2 (HG.out.up9 HB.out))
 rw [Hd.out] at HA
 go_wp2_with fail
 refine HA.out.mono ?_
 intro e w6 h
 obtain ⟨hb, he⟩ := add_bad h may1 wr5 (by decide)
 subst he
 replace HC1 := Lib.hid (HC1.out.after hb)
 replace HC2 := Lib.hid (HC2.out.after hb)
 replace HX := Lib.hid (HX.out.after hb)
 replace HY := Lib.hid (HY.out.after hb)
 replace HB := Lib.hid (below_via HB.out hb)
 clear hb h HA Hi Hd
 have HT := Lib.hid (mktA_c (ba [117]) (ba [117]) w6 (by decide) (by decide))
 go_wp2_with fail
 refine HT.out.mono ?_
 rintro e t7 ⟨x7, rfl, hi, ha, hd, hb⟩
 replace HC1 := Lib.hid (HC1.out.after hb)
 replace HC2 := Lib.hid (HC2.out.after hb)
 replace HX := Lib.hid (HX.out.after hb)
 replace HY := Lib.hid (HY.out.after hb)
 replace HB := Lib.hid (below_via HB.out hb)
 have Hi := Lib.hid (And.intro hi ha)
 have Hd := Lib.hid hd
 clear hi ha hd hb HT
 have HA := Lib.hid (addA_c x7 A1 1 k1 c1F t7 HC1.out Hi.out.1 Hi.out.2 (HG.out.up9 HB.out))
 rw [Hd.out] at HA
 go_wp2_with fail
 refine HA.out.mono ?_
 intro e w7 h
 obtain ⟨hb, A7, n7, k7, he, hC⟩ := add_ok h may1 wr6
 subst he
 obtain rfl : n7 = 2 := hC.len.symm
 have HC7 : Hid (CtA w7 A7 2 k7 (c1F ++ [tabR (ba [117]) (ba [117])])) := Lib.hid hC
 replace HC1 := Lib.hid (HC1.out.after hb)
 replace HC2 := Lib.hid (HC2.out.after hb)
 replace HX := Lib.hid (HX.out.after hb)
 replace HY := Lib.hid (HY.out.after hb)
 replace HB := Lib.hid (below_via HB.out hb)
 clear hb hC h HA Hi Hd
 clear HC7
 obtain ⟨W, hW⟩ : ∃ W, w7.alloc (.cells #[.int .i64 2, .int .i64 2] 3) = W := ⟨_, rfl⟩
 have hbW : Below w7.heap.size w7 W := by rw [← hW]; exact below_one _ _
 have HS2 := Lib.hid (sameInts_c X.A (some ⟨w7.heap.size, 0, none⟩) X.n 2 X.c 2 X.xs [2, 2] W HX.out.len rfl HX.out.max (by unfold maxLen; decide) (HX.out.sl.after hbW) (by rw [← hW]; exact SlG.new (rd := rdI) (fun _ => rfl) _ rfl))
 rw [HXq.out, show decide (([2, 2] : List Int) = [2, 2]) = true from rfl] at HS2
 replace HC2 := Lib.hid (HC2.out.after hbW)
 replace HY := Lib.hid (HY.out.after hbW)
 replace HB := Lib.hid (below_via HB.out hbW)
 have HW := Lib.hid hW
 clear hW hbW HX HXq HC1
 go_wp2_with fail
 rw [HW.out]
 refine HS2.out.mono ?_
 rintro e w8 ⟨rfl, hb⟩
 replace HC2 := Lib.hid (HC2.out.after hb)
 replace HY := Lib.hid (HY.out.after hb)
 replace HB := Lib.hid (below_via HB.out hb)
 clear hb HW HS2
 obtain ⟨W, hW⟩ : ∃ W, w8.alloc (.cells #[.bool true, .bool true] 4) = W := ⟨_, rfl⟩
 have hbW : Below w8.heap.size w8 W := by rw [← hW]; exact below_one _ _
 have HS2 := Lib.hid (sameBools_c Y.A (some ⟨w8.heap.size, 0, none⟩) Y.n 2 Y.c 2 Y.xs [true, true] W HY.out.len rfl HY.out.max (by unfold maxLen; decide) (HY.out.sl.after hbW) (by rw [← hW]; exact SlG.new (rd := rdB) (fun _ => rfl) _ rfl))
 rw [HYq.out, show decide (([true, true] : List Bool) = [true, true]) = true from rfl] at HS2
 replace HC2 := Lib.hid (HC2.out.after hbW)
 replace HB := Lib.hid (below_via HB.out hbW)
 have HW := Lib.hid hW
 clear hW hbW HY HYq
 go_wp2_with fail
 rw [HW.out]
 refine HS2.out.mono ?_
 rintro e w9 ⟨rfl, hb⟩
 replace HC2 := Lib.hid (HC2.out.after hb)
 replace HB := Lib.hid (below_via HB.out hb)
 clear hb HW HS2
 have HF := Lib.hid (findA_c A2 2 k2 c2F (ba [118]) w9 HC2.out (mayC_all may2))
 rw [find2] at HF
 go_wp2_with fail
 refine HF.out.mono ?_
 rintro e w10 ⟨rfl, hb⟩
 replace HC2 := Lib.hid (HC2.out.after hb)
 replace HB := Lib.hid (below_via HB.out hb)
 clear hb HF
 have HM := Lib.hid (mayA_c A2 2 k2 c2F w10 HC2.out (HG.out.up9 HB.out))
 rw [may2] at HM
 go_wp2_with fail
 refine HM.out.mono ?_
 rintro e w11 ⟨rfl, hb⟩
 replace HC2 := Lib.hid (HC2.out.after hb)
 replace HB := Lib.hid (below_via HB.out hb)
 clear hb HM
 obtain ⟨b, off, rfl⟩ := HC2.out.some (by decide)
 have hk2 := HC2.out.le
 have HM := Lib.hid (mayA_c (some ⟨b, off + 13, none⟩) (2 - 1) (k2 - 1) [viewF (ba [118]) (ba [116])] w11 (HC2.out.tail (by decide)) (HG.out.up9 HB.out))
 rw [may3] at HM
 clear HC2
 have hkm := k2
 go_wp2_with fail
 refine HM.out.mono ?_
 rintro e w12 ⟨rfl, hb⟩
 replace HB := Lib.hid (below_via HB.out hb)
 clear hb HM
 go_wp2
 go_ret
 exact ⟨rfl, HB.out⟩
end Go.Proofs.YtamekagminbejaaGreatDoor
namespace Go.Proofs.YtamekagminbejaaGreatDoor
open Go Go.RowKit
set_option maxRecDepth 100000
attribute [local go_sem ↓] Go.wp_at_zero Go.wp_at_succ
abbrev Yes (w : World) (e : Ending) (w' : World) : Prop := e = .returned (.bool true) ∧ Below w.heap.size w w'
end Go.Proofs.YtamekagminbejaaGreatDoor
namespace Go.Proofs.YtamekagminbejaaGreatDoor
open Go Go.RowKit
set_option maxRecDepth 100000
attribute [local go_sem ↓] Go.wp_at_zero Go.wp_at_succ
def nmK (k : Nat) : ByteArray := ba [116, UInt8.ofNat (97 + k)]
def nsK (k : Nat) : List ByteArray := (List.range k).map nmK
def csK (k : Nat) : List Df := (nsK k).map tabD
theorem nsK_len (k : Nat) : (nsK k).length = k := by unfold nsK; simp
theorem csK_len (k : Nat) : (csK k).length = k := by unfold csK; rw [List.length_map, nsK_len]
theorem csK_succ (k : Nat) : csK (k + 1) = csK k ++ [tabR (nmK k) emp] := by unfold csK nsK; rw [List.range_succ]; simp; rfl
theorem nm_ok : (List.range 26).all (fun k => nameB (nmK k).data.toList) = true := by kernel_rfl
theorem nm_okD {k : Nat} (h : k < 26) : okD (tabD (nmK k)) = true := tab_okD (List.all_eq_true.1 nm_ok k (List.mem_range.2 h))
theorem nm_inj {i j : Nat} (hi : i < 26) (hj : j < 26) (h : nmK i = nmK j) : i = j := by
 have h1 : ([116, UInt8.ofNat (97 + i)] : List UInt8) = [116, UInt8.ofNat (97 + j)] := congrArg (fun b : ByteArray => b.data.toList) h
 have h2 := (List.cons.inj (List.cons.inj h1).2).1
 have h3 := congrArg UInt8.toNat h2
 simp at h3
 omega
theorem nsK_mem {k : Nat} {n : ByteArray} (h : n ∈ nsK k) : ∃ i, i < k ∧ n = nmK i := by
 obtain ⟨i, hi, e⟩ := List.mem_map.1 h
 exact ⟨i, List.mem_range.1 hi, e.symm⟩
theorem csK_may {k : Nat} (h : k ≤ 20) : mayC okD typeR (csK k) = true := by
 refine many_may (fun n hn => ?_) ?_ (by rw [nsK_len]; exact h)
 · obtain ⟨i, hi, rfl⟩ := nsK_mem hn
   exact nm_okD (by omega)
 · unfold nsK List.Nodup
   rw [List.pairwise_map]
   exact List.Pairwise.imp_of_mem (fun {a b} ha hb hab e => by
    have := nm_inj (by have := List.mem_range.1 ha; omega) (by have := List.mem_range.1 hb; omega) e
    omega) List.pairwise_lt_range
theorem csK_add {k : Nat} (h : k < 20) : wrongE okD typeR (envF [] (csK k)) (tabR (nmK k) emp) = 0 := by
 refine tab_wrong (nm_okD (by omega)) (by rw [envF_len, csK_len]; simpa using h) (env_none fun d hd => ?_)
 obtain ⟨n, hn, rfl⟩ := List.mem_map.1 hd
 obtain ⟨i, hi, rfl⟩ := nsK_mem hn
 intro e
 have := nm_inj (i := i) (j := k) (by omega) (by omega) e
 omega
def abc : ByteArray := ⟨#[97, 98, 99, 100, 101, 102, 103, 104, 105, 106, 107, 108, 109, 110, 111, 112, 113, 114, 115, 116, 117, 118, 119, 120, 121, 122]⟩
theorem nm_all : (List.range 26).all (fun k => decide (((⟨#[116]⟩ : ByteArray) ++ abc.extract k (k + 1)).data.toList = (nmK k).data.toList)) = true := by kernel_rfl
theorem nm_cut {k : Nat} (h : k < 26) : (⟨#[116]⟩ : ByteArray) ++ (⟨#[97, 98, 99, 100, 101, 102, 103, 104, 105, 106, 107, 108, 109, 110, 111, 112, 113, 114, 115, 116, 117, 118, 119, 120, 121, 122]⟩ : ByteArray).extract k (k + 1) = nmK k := by
 have h1 := of_decide_eq_true (List.all_eq_true.1 nm_all k (List.mem_range.2 h))
 exact ByteArray.ext (Array.toList_inj.1 h1)
theorem csK_full : wrongE okD typeR (envF [] (csK 20)) (tabR (nmK 20) emp) = 95 := many_full (nm_okD (by decide)) (nsK_len 20)
set_option maxHeartbeats 8000000 in
theorem many9_c (z : Int) (w : World) (hG : Gw w.heap.size w) :
 Calls Tryz.prog 7 #[.int .i64 z] w (Yes w) := by
 have HG := Lib.hid hG
 have HF0 := Lib.hid (fixed9_c w hG)
 have HFx := Lib.hid fun u (hb : Below w.heap.size w u) => fixed9_c u (hG.up9 hb)
 clear hG
 go_enter Tryz.func7, Tryz.ntmps7
 go_wp2_with fail
 refine HF0.out.mono ?_
 rintro e w1 ⟨rfl, hb⟩
 have HB1 := Lib.hid hb
 clear HF0 hb
 by_cases hz : z < 0
 case pos =>
  have HFq := Lib.hid (HFx.out w1 HB1.out)
  go_wp2_with fail
  refine HFq.out.mono ?_
  rintro e wq ⟨rfl, hbq⟩
  have HBq := Lib.hid (below_via HB1.out hbq)
  clear hbq HFq
  go_wp2
  go_ret
  exact ⟨rfl, HBq.out⟩
 by_cases hz4 : z > 24
 case pos =>
  have HFq := Lib.hid (HFx.out w1 HB1.out)
  go_wp2_with fail
  refine HFq.out.mono ?_
  rintro e wq ⟨rfl, hbq⟩
  have HBq := Lib.hid (below_via HB1.out hbq)
  clear hbq HFq
  go_wp2
  go_ret
  exact ⟨rfl, HBq.out⟩
 obtain ⟨n, rfl⟩ : ∃ n : Nat, z = n := ⟨z.toNat, by omega⟩
 clear HFx
 go_upto_region 4 with fail
 go_wp2_with fail
 go_loopw [3, 4] (fun c i wr => ∃ (k d : Nat) (A : Option Addr), k ≤ n ∧ k ≤ 20 ∧ i = .int .i64 k ∧ c = .slice A k d ∧ Hid (Below w.heap.size w wr) ∧ Hid (CtA wr A k d (csK k))) (fun _ i _ => n - (intOf i).toNat)
 case atStart => exact ⟨0, 0, _, Nat.zero_le _, Nat.zero_le _, rfl, rfl, below_al HB1.out _, ⟨⟨[], ⟨rfl, Nat.zero_le _, .inl rfl, fun x hx => by cases hx⟩, rfl, fun x hx => by cases hx⟩, Nat.le_refl _, Nat.zero_le _⟩⟩
 case round =>
  obtain ⟨k, d, A, hk, hk2, rfl, rfl, hb, hct⟩ := hrel
  clear HB1
  by_cases hlt : k < n
  · have hc := nm_cut (k := k) (by omega)
    have HT := Lib.hid (mktA_c (nmK k) emp wr (by show (2 : Nat) ≤ 1000; omega) (by decide))
    have Hc := Lib.hid hc
    have hkk : wrap64 ((k : Int) + 1) = (k : Int) + 1 := by unfold wrap64; omega
    clear hc
    go_wp2_with fail
    rw [nm_cut (k := k) (by omega)]
    refine HT.out.mono ?_
    rintro e w2 ⟨x, rfl, hi, ha, hd, hb2⟩
    have HB2 := Lib.hid (below_via hb.out hb2)
    have Hct2 := Lib.hid (hct.out.after hb2)
    have HA := Lib.hid (addA_c x A k d (csK k) w2 Hct2.out hi ha (HG.out.up9 HB2.out))
    rw [hd] at HA
    clear hi ha hd hb2 HT hct hb Hc
    go_wp2_with fail
    refine HA.out.mono ?_
    intro e w3 h
    by_cases h20 : k < 20
    · obtain ⟨hb3, A3, n3, d3, he, hC3⟩ := add_ok h (csK_may hk2) (csK_add h20)
      subst he
      obtain rfl : k + 1 = n3 := by rw [← hC3.len, List.length_append, csK_len]; rfl
      rw [← csK_succ] at hC3
      have HB3 := Lib.hid (below_via HB2.out hb3)
      have HC3 := Lib.hid hC3
      have hc1 : ((k + 1 : Nat) : Int) = (k : Int) + 1 := by omega
      have h20' : ¬ (k : Int) ≥ 20 := by omega
      clear h hb3 hC3 HA HB2 Hct2
      go_wp2
      go_roundw
      case rel => exact ⟨k + 1, d3, A3, by omega, by omega, by go_num, rfl, HB3, HC3⟩
      case measure => simp [intOf]; omega
    · obtain rfl : k = 20 := by omega
      obtain ⟨hb3, he⟩ := add_bad h (csK_may hk2) csK_full (by decide)
      subst he
      have HB3 := Lib.hid (below_via HB2.out hb3)
      clear h hb3 HA HB2 Hct2
      go_wp2
      go_ret
      exact ⟨rfl, HB3.out⟩
  · obtain rfl : k = n := by omega
    have HM := Lib.hid (mayA_c A k d (csK k) wr hct.out (HG.out.up9 hb.out))
    rw [csK_may hk2] at HM
    go_wp2_with fail
    refine HM.out.mono ?_
    rintro e w2 ⟨rfl, hb2⟩
    have HB2 := Lib.hid (below_via hb.out hb2)
    clear hb2 HM hct hb
    go_wp2
    go_ret
    exact ⟨rfl, HB2.out⟩
end Go.Proofs.YtamekagminbejaaGreatDoor
namespace Go.Proofs.YtamekagminbejaaGreatDoor
open Go Go.RowKit Go.ChangeShapes Go.WideShapes Go.ChangeAt Go.Joins Go.Deep
set_option maxRecDepth 100000
theorem own : ownKnob Tryz.prog.godebug = none := by kernel_rfl
theorem laidOut : laidOutB Tryz.prog = true := by kernel_rfl
section
variable {H : Type} {enc : TypeId × Value → H}
theorem trodAll_below {P : Program} (hl : laidOutB P = true) {W W' : World} (hb : Below W.heap.size W W') (ts : List TypeId) : ∀ (vs : List Value) (ds : List (DataW H)) (ps : List MemPlace), (ts.all fun t => P.readableRec t && decide (t < P.types.size)) = true →
 DataW.TrodAll enc P W 0 (fun _ => true) true ts vs ds ps → (∀ x ∈ ps, x.block < W.heap.size) → DataW.TrodAll enc P W' 0 (fun b => decide (b < W.heap.size)) true ts vs ds ps := by
 induction ts with
 | nil =>
   intro vs ds ps _ h _
   cases vs <;> cases ds <;> first | exact h | exact h.elim
 | cons t ts ih =>
   intro vs ds ps ht h hlt
   cases vs with
   | nil => cases ds <;> exact h.elim
   | cons v vs =>
     cases ds with
     | nil => exact h.elim
     | cons d ds =>
       obtain ⟨p, q, h1, h2, rfl⟩ := h
       simp only [List.all_cons, Bool.and_eq_true, decide_eq_true_eq] at ht
       exact ⟨p, q, Below.trod hl ht.1.1 ht.1.2 h1 hb (fun x hx => hlt x (List.mem_append_left _ hx)), ih vs ds q ht.2 h2 (fun x hx => hlt x (List.mem_append_right _ hx)), rfl⟩
theorem law_post {f : Func} {s : ChangeSpec} {W W' : World} {args : Array Value} {ds gs : List (DataW H)} {before : List MemPlace}
 (hW : DataW.Whole enc Tryz.prog f.params.toList s.vars false W args.toList ds gs before) (hb : Below W.heap.size W W') (hvars : s.vars = []) (hp : (f.params.toList.all fun t => Tryz.prog.readableRec t && decide (t < Tryz.prog.types.size)) = true)
 (hr : f.resultTypes = #[4]) (hs : s.fn H (ds ++ gs) = { results := [.lit (.bool true)], args := ds }) : s.post enc Tryz.prog f false true false false W args (.bool true) W' := by
 have hlt : ∀ p ∈ before, p.block < W.heap.size := fun p hp => hW.lt p hp
 have hW0 := hW
 obtain ⟨p, q, hA, hV, rfl, _, _⟩ := hW
 rw [hvars] at hV
 obtain ⟨rfl, rfl⟩ := trodVars_none hV
 refine ⟨ds, [], _, [], p, [], hW0, ?_, ?_, ?_, ?_, fun h => by cases h⟩
 · rw [hs, hr]
   exact trodAll_mk1 (shut_bool Tryz.underlying4 _)
 · rw [hs]
   exact trodAll_below laidOut hb _ _ _ _ hp hA (fun x hx => hlt x (List.mem_append_left _ hx))
 · rw [hs, hvars]; rfl
 · exact hb.frame _
end
end Go.Proofs.YtamekagminbejaaGreatDoor
namespace Go.Proofs.YtamekagminbejaaGreatDoor
open Go Go.RowKit Go.ChangeShapes Go.WideShapes Go.ChangeAt Go.Joins Go.Deep
set_option maxRecDepth 100000
section
variable {H : Type} {enc : TypeId × Value → H}
end
end Go.Proofs.YtamekagminbejaaGreatDoor
namespace Go.Proofs.YtamekagminbejaaGreatDoor
open Go Go.RowKit Go.ChangeShapes Go.WideShapes Go.ChangeAt Go.Joins Go.Deep Go.Shelf
set_option maxRecDepth 100000
theorem maxlen_of {W : World} (h : W.ShapedOpen Tryz.prog) : ∃ m : Int, W.cell? ⟨2, 0, none⟩ = some (.int .i64 m) := Tryz.laysM155.s1_3 W h
theorem star : "*" ++ "errors.errorString" = "*errors.errorString" := by decide
theorem row_err (u : TypeId) (h : Tryz.prog.typeName? 3 u = some "*errors.errorString") : u = 279 :=
 typeName_ptr_named (nm := "errors.errorString") (by rw [star]; kernel_rfl) (by kernel_rfl) (by decide) u (by rw [star]; exact h)
theorem glt_of {W : World} (hT : Lib.TabIs Tryz.prog W "internal/strconv.uint64pow10" .u64 Lib.pow10Tab) : 1 < W.heap.size := by
 unfold Lib.TabIs World.var? at hT
 have hn : Tryz.prog.globalNamed "internal/strconv.uint64pow10" = some 1 := by kernel_rfl
 rw [hn] at hT
 rcases Nat.lt_or_ge 1 W.heap.size with hlt | hge
 · exact hlt
 · simp only [Option.bind_some, Array.getElem?_eq_none hge] at hT
   cases hT
theorem pow_of {W : World} (h : laidMet Tryz.prog Rows.schemaManyRow.laid W) : Lib.TabIs Tryz.prog W "internal/strconv.uint64pow10" .u64 Lib.pow10Tab := by
 have hmem : ("internal/strconv.uint64pow10", Rows.laid_internal_strconv_uint64pow10) ∈ Rows.schemaManyRow.laid := .tail _ (.tail _ (.head _))
 obtain ⟨g, t, cs, fuel, p, hg, ht, hvar, hd⟩ := Lib.laidMet.reads h hmem
 obtain rfl := Option.some.inj ((show Tryz.prog.globalNamed "internal/strconv.uint64pow10" = some 1 by kernel_rfl).symm.trans hg)
 obtain rfl := Option.some.inj ((show (Tryz.prog.globals[1]?).map (·.type) = some 255 by kernel_rfl).symm.trans ht)
 unfold Lib.TabIs
 rw [hvar, ← Lib.cells_of_tab (zs := Lib.pow10Tab) Tryz.underlying255 Tryz.underlying126 (by kernel_rfl) (by kernel_rfl) hd]
theorem gl_of {W : World} (hL : laidMetH Tryz.prog Rows.schemaManyRow.laid W) (hsh : W.ShapedOpen Tryz.prog) : GL W := by
 rw [MakeChecks.laidMetH_plain _ _ _ (by kernel_rfl)] at hL
 have hT := pow_of hL
 have hm := maxlen_of hsh
 have gS : Tryz.prog.globalNamed "strconv.ErrSyntax" = some 3 := by kernel_rfl
 have gR : Tryz.prog.globalNamed "strconv.ErrRange" = some 4 := by kernel_rfl
 have tS : (Tryz.prog.globals[3]?).map (·.type) = some 224 := by kernel_rfl
 have tR : (Tryz.prog.globals[4]?).map (·.type) = some 224 := by kernel_rfl
 obtain ⟨a0, s0, hv0, -, -, -⟩ := laid_sentinel hL.tail.tail.tail.tail gR tR Tryz.underlying224 row_err Tryz.underlying279 Tryz.underlying281 rfl rfl Tryz.underlying9 (by kernel_rfl) (by kernel_rfl)
 obtain ⟨a1, s1, hv1, -, -, -⟩ := laid_sentinel hL.tail.tail.tail.tail.tail gS tS Tryz.underlying224 row_err Tryz.underlying279 Tryz.underlying281 rfl rfl Tryz.underlying9 (by kernel_rfl) (by kernel_rfl)
 have hc0 := World.var?_cell gR hv0 0
 have hc1 := World.var?_cell gS hv1 0
 obtain ⟨m, hm'⟩ := hm
 exact ⟨⟨⟨m, hm'⟩, hT, glt_of hT⟩, ⟨_, _, hv1⟩, ⟨_, _, hv0⟩, ⟨World.block_lt_of_cell? _ _ hm', glt_of hT, World.block_lt_of_cell? _ _ (by simpa using hc1), World.block_lt_of_cell? _ _ (by simpa using hc0)⟩⟩
theorem words_of {W : World} (h : laidMetH Tryz.prog Rows.schemaManyRow.laid W) : OpT W := by
 rw [MakeChecks.laidMetH_plain _ _ _ (by kernel_rfl)] at h
 have hmem : ("levee/expr.words", Rows.laid_levee_expr_words) ∈ Rows.schemaManyRow.laid := .tail _ (.tail _ (.tail _ (.tail _ (.tail _ (.tail _ (.head _))))))
 obtain ⟨g, t, cs, fuel, p, hg, ht, hvar, hd⟩ := Lib.laidMet.reads h hmem
 obtain rfl := Option.some.inj ((show Tryz.prog.globalNamed "levee/expr.words" = some 0 by kernel_rfl).symm.trans hg)
 obtain rfl := Option.some.inj ((show (Tryz.prog.globals[0]?).map (·.type) = some 253 by kernel_rfl).symm.trans ht)
 obtain ⟨xs, m, _, hx, hcl, hxl, hel⟩ := DataW.trod_array Tryz.underlying253 hd
 have c9 : Tryz.prog.cellsOf 9 = 1 := by kernel_rfl
 have c11 : Tryz.prog.cellsOf 253 = 11 := by kernel_rfl
 rw [c9] at hel
 rw [c11] at hcl
 have hxs : xs.map (·.1) = opL.map fun bs => .lit (.string bs) := by
  have := congrArg Prod.fst hx
  simp only [Rows.laid_levee_expr_words] at this
  injection this with this
  exact this.symm
 intro i bs hb0
 have hi : i < 11 := (List.getElem?_eq_some_iff.1 hb0).1
 have hb : (xs.map (·.1))[i]? = some (.lit (.string bs)) := by rw [hxs, List.getElem?_map, hb0]; rfl
 have h1 := hel i hi
 rw [List.getElem?_map] at hb
 cases hxi : xs[i]? with
 | none => rw [hxi] at hb; cases hb
 | some z =>
   rw [hxi] at hb h1
   obtain ⟨s, e, ez, _⟩ := DataW.trod_string Tryz.underlying9 h1
   have hcell : cs.toList[i]? = some (.string s) := by
    rw [Nat.mul_one] at e
    have hl : i < cs.toList.length := by omega
    rw [List.drop_eq_getElem_cons hl] at e
    simp at e
    rw [List.getElem?_eq_getElem hl]
    simpa using e
   have hs : s = ba bs := by
    rw [ez] at hb
    simp at hb
    obtain ⟨⟨l⟩⟩ := s
    simp at hb
    rw [hb]
   subst hs
   have := World.var?_cell hg hvar i
   rw [this]
   simpa using hcell
theorem gw_of {W : World} (hL : laidMetH Tryz.prog Rows.schemaManyRow.laid W) (hsh : W.ShapedOpen Tryz.prog) : Gw W.heap.size W :=
 ⟨gl_of hL hsh, words_of hL, (gl_of hL hsh).lt, (words_of hL).lt⟩
section
variable {H : Type} {enc : TypeId × Value → H}
instance : Nonempty Nd := ⟨⟨0, 0, nl⟩⟩
instance : Nonempty (Sx Nd) := ⟨⟨none, 0, 0, []⟩⟩
instance : Nonempty Cl := ⟨⟨emp, 0, false, false, emp, 0⟩⟩
instance : Nonempty Ag := ⟨⟨0, 0⟩⟩
end
section
variable {H : Type} {enc : TypeId × Value → H}
end
section
variable {H : Type} {enc : TypeId × Value → H}
end
end Go.Proofs.YtamekagminbejaaGreatDoor
