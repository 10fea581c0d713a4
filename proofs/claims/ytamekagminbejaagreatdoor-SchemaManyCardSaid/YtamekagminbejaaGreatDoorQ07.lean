/-
  Part 7 of 8 of what the proof leans on: each part below says what it proves, and of what; no condition besides.
-/
import Derived.Test.YtamekagminbejaaGreatDoorQ06
import Derived.Laws.CopyOwn
import Derived.Deep.DeepCutAuto
set_option linter.unusedVariables false
set_option linter.unusedSimpArgs false
namespace Go.Proofs.YtamekagminbejaaGreatDoor
open Go Go.RowKit
set_option maxRecDepth 100000
theorem OwnG.isSl {α : Type} {rd : α → List Value} {S : Nat} {w : World} {B : Nat} {E : TypeId} {v : Value} {xs : List α} (h : OwnG w B E S rd v xs) : ∃ A n c, v = .slice A n c := by
 obtain ⟨A, c, hv⟩ := h.isSlice
 exact ⟨A, _, c, hv⟩
structure Tm.Ask (t : Tm) : Prop where
 ne : 1 ≤ t.cols.n
 le : t.cols.n ≤ 40
 cap : t.cols.n ≤ t.cols.c
 cm : t.cols.c ≤ maxLen
 tx : ∀ e ∈ t.chks.xs, ∀ y ∈ e.xs, y.v.s.size ≤ maxLen
set_option maxHeartbeats 16000000 in
theorem table9_c (t : Tm) (A : Option Addr) (n c : Nat) (xs : List Sc) (w : World) (hL : ScL w A n xs) (hn : n ≤ 100) (ht : t.In w) (hA : t.Ask) (hne : ∀ e ∈ enL xs ++ [tbEn t.tb], e.tb = true → 1 ≤ e.ks.length) :
 Calls Tryz.prog 39 #[.slice A n c, t.w] w (SrcS (tabO (enL xs ++ [tbEn t.tb]) t.tb) w) := by
 obtain ⟨S, hS⟩ : ∃ S, SrcS (tabO (enL xs ++ [tbEn t.tb]) t.tb) w = S := ⟨_, rfl⟩
 rw [hS]
 have HS := Lib.hid hS
 obtain ⟨nm, ⟨cA, cn, cc, cxs⟩, ⟨kA, kn, kc, kxs⟩⟩ := t
 obtain ⟨⟨cl, cm, csl⟩, ⟨kl, km, ksl⟩, kea⟩ := ht
 obtain ⟨a1, a2, a3, a4, a5⟩ := hA
 simp only at cl cm csl kl km ksl kea a1 a2 a3 a4 a5
 obtain ⟨w0, hw0⟩ : ∃ w0, ((w.alloc (.cells #[.string nm, .slice cA cn cc, .slice kA kn kc] 29)).alloc (.cells #[.string emp, .bool false, .slice none 0 0, .slice none 0 0] 64)).alloc (.cells #[.string nm, .bool true, .slice none 0 0, .slice none 0 0] 64) = w0 := ⟨_, rfl⟩
 have hz0 : w0.heap.size = w.heap.size + 1 + 1 + 1 := by rw [← hw0]; simp
 have hB0 : Below w.heap.size w w0 := by rw [← hw0]; exact ((below_one w _).alloc (by simp) _).alloc (by simp; omega) _
 have hT : Bk w0 w.heap.size #[.string nm, .slice cA cn cc, .slice kA kn kc] 29 := by rw [← hw0]; exact ((Bk.new w _ _).alloc _).alloc _
 have hR : BkS w0 (w.heap.size + 1) sc0 := by
  have := (Bk.new (w.alloc (.cells #[.string nm, .slice cA cn cc, .slice kA kn kc] 29)) #[.string emp, .bool false, .slice none 0 0, .slice none 0 0] 64).alloc (.cells #[.string nm, .bool true, .slice none 0 0, .slice none 0 0] 64)
  rw [hw0] at this
  simpa [BkS, sc0] using this
 have hO : Bk w0 (w.heap.size + 1 + 1) #[.string nm, .bool true, .slice none 0 0, .slice none 0 0] 64 := by
  have := Bk.new ((w.alloc (.cells #[.string nm, .slice cA cn cc, .slice kA kn kc] 29)).alloc (.cells #[.string emp, .bool false, .slice none 0 0, .slice none 0 0] 64)) #[.string nm, .bool true, .slice none 0 0, .slice none 0 0] 64
  rw [hw0] at this
  simpa using this
 have HJ0 : Hid (TbJ w0 (w.heap.size + 1 + 1) nm [] [] (.slice none 0 0) (.slice none 0 0) w0) := Lib.hid ⟨hO, OwnG.nil _ _ _, OwnG.nil _ _ _, Apb.refl _ _⟩
 have HB0 := Lib.hid hB0
 have HAp : Hid (∀ wr, Apb (w.heap.size + 1 + 1) w0 wr → Below w.heap.size w wr) := Lib.hid fun wr h => hB0.trans ((h.below (by omega)).mono (by omega))
 have HT := Lib.hid hT
 have HR := Lib.hid hR
 have HW0 := Lib.hid hw0
 have HL := Lib.hid hL
 have Hc := Lib.hid (And.intro cl csl)
 have Hk := Lib.hid (And.intro kl (And.intro ksl kea))
 have Hne := Lib.hid hne
 have H5 := Lib.hid a5
 have t1 : w0.cell? ⟨w.heap.size, 1, none⟩ = some (.slice cA cn cc) := hT.cell 1
 have lT : w.heap.size < w0.heap.size := hT.lt
 have Hcm := Lib.hid (And.intro cm km)
 have Hz0 := Lib.hid hz0
 clear hw0 hB0 hT hR hO hL cl csl kl ksl kea hne a5 hS cm km hz0
 have hmf : ∀ (fn : Fn) (first cap : Array Value) (w : World), (Instr.makeFunc fn first cap).run Tryz.prog w = .ok (.func fn first cap) w := fun _ _ _ _ => rfl
 go_enter Tryz.func39, Tryz.ntmps39
 go_upto_region 2 with fail
 rw [HW0.out]
 go_wp2_with fail
 go_loopw [16] (fun i wr => ∃ (k : Nat) (v1 v2 : Value), k ≤ cn ∧ i = .int .i64 (k : Int) ∧ Hid (TbJ w0 (w.heap.size + 1 + 1) nm ((cxs.take k).map (·.kind)) ((cxs.take k).map (·.nul)) v1 v2 wr)) (fun i _ => cn - (intOf i).toNat)
 case atStart => exact ⟨0, _, _, Nat.zero_le _, rfl, HJ0⟩
 case round =>
  obtain ⟨k, v1, v2, hk, rfl, hj⟩ := hrel
  have hbs := hj.out.ap.size
  clear HJ0 t1
  by_cases hlt : k < cn
  · obtain ⟨b, off, x, rfl, hblt, hx, hc⟩ := Hc.out.2.atS (k := k) (by rw [Hc.out.1]; exact hlt)
    have hbr := HAp.out wr hj.out.ap
    have d0 : wr.cell? ⟨b, off + k * 6, none⟩ = some (.string x.name) := (hbr.cell (p := ⟨b, off + k * 6, none⟩) hblt).trans (hc 0 _ rfl)
    have d1 : wr.cell? ⟨b, off + k * 6 + 1, none⟩ = some (.int .i64 x.kind) := (hbr.cell (p := ⟨b, off + k * 6 + 1, none⟩) hblt).trans (hc 1 _ rfl)
    have d2 : wr.cell? ⟨b, off + k * 6 + 2, none⟩ = some (.bool x.nul) := (hbr.cell (p := ⟨b, off + k * 6 + 2, none⟩) hblt).trans (hc 2 _ rfl)
    have d3 : wr.cell? ⟨b, off + k * 6 + 3, none⟩ = some (.bool x.uni) := (hbr.cell (p := ⟨b, off + k * 6 + 3, none⟩) hblt).trans (hc 3 _ rfl)
    have d4 : wr.cell? ⟨b, off + k * 6 + 4, none⟩ = some (.string x.ref) := (hbr.cell (p := ⟨b, off + k * 6 + 4, none⟩) hblt).trans (hc 4 _ rfl)
    have d5 : wr.cell? ⟨b, off + k * 6 + 5, none⟩ = some (.int .i64 x.act) := (hbr.cell (p := ⟨b, off + k * 6 + 5, none⟩) hblt).trans (hc 5 _ rfl)
    have l0 : b < wr.heap.size := Nat.lt_of_lt_of_le hblt hbr.size
    obtain ⟨w1, hw1⟩ : ∃ w1, wr.alloc (.cells #[.string x.name, .int .i64 x.kind, .bool x.nul, .bool x.uni, .string x.ref, .int .i64 x.act] 41) = w1 := ⟨_, rfl⟩
    have hK : Bk w1 wr.heap.size #[.string x.name, .int .i64 x.kind, .bool x.nul, .bool x.uni, .string x.ref, .int .i64 x.act] 41 := by rw [← hw1]; exact Bk.new wr _ _
    have hJ1 : TbJ w0 (w.heap.size + 1 + 1) nm ((cxs.take k).map (·.kind)) ((cxs.take k).map (·.nul)) v1 v2 w1 := by rw [← hw1]; exact hj.out.alloc _
    have Hks : Hid ((cxs.take (k + 1)).map (·.kind) = (cxs.take k).map (·.kind) ++ [x.kind]) := Lib.hid (by rw [List.take_add_one, hx, List.map_append]; rfl)
    have Hns : Hid ((cxs.take (k + 1)).map (·.nul) = (cxs.take k).map (·.nul) ++ [x.nul]) := Lib.hid (by rw [List.take_add_one, hx, List.map_append]; rfl)
    have Hl1 : Hid (((cxs.take k).map (·.kind)).length ≤ 40) := Lib.hid (by rw [List.length_map, List.length_take]; omega)
    have Hl2 : Hid (((cxs.take k).map (·.nul)).length ≤ 40) := Lib.hid (by rw [List.length_map, List.length_take]; omega)
    obtain ⟨L1, hL1⟩ : ∃ L1, (cxs.take k).map (·.kind) = L1 := ⟨_, rfl⟩
    obtain ⟨L2, hL2⟩ : ∃ L2, (cxs.take k).map (·.nul) = L2 := ⟨_, rfl⟩
    rw [hL1] at Hks Hl1 hJ1
    rw [hL2] at Hns Hl2 hJ1
    have HJ1 := Lib.hid hJ1
    have HK := Lib.hid hK
    have Hw1 := Lib.hid hw1
    have hs1 := hJ1.ap.size
    have Hz1 : Hid (w1.heap.size = wr.heap.size + 1) := Lib.hid (by rw [← hw1]; simp)
    have e1 : w1.cell? ⟨wr.heap.size, 1, none⟩ = some (.int .i64 x.kind) := hK.cell 1
    have lk := hK.lt
    have o2 : w1.cell? ⟨w.heap.size + 1 + 1, 2, none⟩ = some v1 := hJ1.bk.cell 2
    have lo := hJ1.bk.lt
    have hgo : (k : Int) < cn := by omega
    clear hw1 hK hJ1 hL1 hL2 hc hx hbr
    go_upto_region 5 with fail
    rw [Hw1.out]
    clear d0 d1 d2 d3 d4 d5 l0
    have hown1 : OwnG (w1.alloc (.cells #[.int .i64 x.kind] 3)) w0.heap.size 3 1 rdI v1 L1 := HJ1.out.ks.alloc _
    have Ho1 := Lib.hid hown1
    clear hown1
    have HPut : Hid (∀ v w2, OwnG w2 w0.heap.size 3 1 rdI v (L1 ++ [x.kind]) → (w1.alloc (.cells #[.int .i64 x.kind] 3)).grownBy w2 v1.ownBlock → TbJ w0 (w.heap.size + 1 + 1) nm (L1 ++ [x.kind]) L2 v v2 (w2.setCell ⟨w.heap.size + 1 + 1, 2, none⟩ v) ∧ Bk (w2.setCell ⟨w.heap.size + 1 + 1, 2, none⟩ v) wr.heap.size #[.string x.name, .int .i64 x.kind, .bool x.nul, .bool x.uni, .string x.ref, .int .i64 x.act] 41 ∧ Bk w2 (w.heap.size + 1 + 1) #[.string nm, .bool true, v1, v2] 64) := Lib.hid fun v w2 hv hg => by
     have hj2 := HJ1.out.alloc (.cells #[.int .i64 x.kind] 3)
     have hs := hj2.ap.size
     have hz := Hz0.out
     have hk2 := HK.out.alloc (.cells #[.int .i64 x.kind] 3)
     refine ⟨hj2.putK (by omega) hv hg (own_apart hj2.ks hj2.ns), ?_, (hg.block _ hj2.bk.lt (fun e => by have := (hj2.ks.lt _ e.symm).1; omega)).trans hj2.bk⟩
     have hne : some wr.heap.size ≠ v1.ownBlock := fun e => by have := (hj.out.ks.lt _ e.symm).2; omega
     have := (hg.block _ hk2.lt hne).trans hk2
     exact (Below.heap_setCell _ _ _ _ (by show wr.heap.size ≠ w.heap.size + 1 + 1; omega)).trans this
    go_upto_region 6 with (at_builtin; go_must (refine wpList_appG iOk rfl (.tmp 21) (.tmp 24) rfl w0.heap.size _ L1 [x.kind] (some ⟨w1.heap.size, 0, none⟩) 1 1 rfl Ho1.out rfl rfl (SlG.new iOk.len [x.kind] rfl) (by have := Hl1.out; simp [maxLen]; omega) (by have := Hl1.out; simp; omega) (by simp; omega) ?_; intro v3 w2 hv1 hg1; obtain ⟨A3, m3, c3, rfl⟩ := hv1.isSl; have hp := HPut.out _ w2 hv1 hg1; have p2 := hp.2.2.cell 2; have p2f := hp.2.2.thaw 2; have HP := Lib.hid hp; clear hv1 hg1 hp; simp at p2))
    obtain ⟨w3, hw3⟩ : ∃ w3, w2.setCell ⟨w.heap.size + 1 + 1, 2, none⟩ (.slice A3 m3 c3) = w3 := ⟨_, rfl⟩
    rw [hw3] at HP
    have Hw3 := Lib.hid hw3
    rw [hw3]
    clear p2 p2f HPut Ho1 e1 o2 hw3
    have q3 : w3.cell? ⟨w.heap.size + 1 + 1, 3, none⟩ = some v2 := HP.out.1.bk.cell 3
    have q2 : w3.cell? ⟨wr.heap.size, 2, none⟩ = some (.bool x.nul) := HP.out.2.1.cell 2
    have lq := HP.out.2.1.lt
    have lo3 := HP.out.1.bk.lt
    have hs3 := HP.out.1.ap.size
    have Ho2 := Lib.hid (HP.out.1.ns.alloc (.cells #[.bool x.nul] 4))
    have HPut : Hid (∀ v w4, OwnG w4 w0.heap.size 4 1 rdB v (L2 ++ [x.nul]) → (w3.alloc (.cells #[.bool x.nul] 4)).grownBy w4 v2.ownBlock → TbJ w0 (w.heap.size + 1 + 1) nm (L1 ++ [x.kind]) (L2 ++ [x.nul]) (.slice A3 m3 c3) v (w4.setCell ⟨w.heap.size + 1 + 1, 3, none⟩ v) ∧ Bk w4 (w.heap.size + 1 + 1) #[.string nm, .bool true, .slice A3 m3 c3, v2] 64) := Lib.hid fun v w4 hv hg => by
     have hj2 := HP.out.1.alloc (.cells #[.bool x.nul] 4)
     have hs := hj2.ap.size
     have hz := Hz0.out
     exact ⟨hj2.putN (by omega) hv hg (own_apart hj2.ks hj2.ns), (hg.block _ hj2.bk.lt (fun e => by have := (hj2.ns.lt _ e.symm).1; omega)).trans hj2.bk⟩
    clear lo lk HK HJ1 hs1
    go_wp2_with (at_builtin; go_must (refine wpList_appG bOk rfl (.tmp 28) (.tmp 31) rfl w0.heap.size _ L2 [x.nul] (some ⟨w3.heap.size, 0, none⟩) 1 1 rfl Ho2.out rfl rfl (SlG.new bOk.len [x.nul] rfl) (by have := Hl2.out; simp [maxLen]; omega) (by have := Hl2.out; simp; omega) (by simp; omega) ?_; intro v4 w4 hv1 hg1; obtain ⟨A4, m4, c4, rfl⟩ := hv1.isSl; have hp := HPut.out _ w4 hv1 hg1; have p3 := hp.2.cell 3; have p3f := hp.2.thaw 3; have HP4 := Lib.hid hp.1; clear hv1 hg1 hp; simp at p3))
    go_roundw
    case rel => exact ⟨k + 1, _, _, by omega, by go_num, Lib.hid (by rw [Hks.out, Hns.out]; exact HP4.out)⟩
    case measure => simp [intOf]; omega
  · obtain rfl : k = cn := by omega
    have hj2 := hj.out
    rw [List.take_of_length_le (by rw [Hc.out.1]; exact Nat.le_refl _)] at hj2
    obtain ⟨X, hX1, hX2, hX3, _, _, hX4, _⟩ := hj2.ks.sx9 iOk.len
    obtain ⟨Y, hY1, hY2, hY3, _, _, hY4, _⟩ := hj2.ns.sx9 bOk.len
    subst hX1
    subst hY1
    obtain ⟨o, ho⟩ : ∃ o : Sc, o = ⟨nm, true, X, Y⟩ := ⟨_, rfl⟩
    have hoi : o.In wr := by rw [ho]; exact ⟨hX2, hY2⟩
    have Holo : Hid (o.ks.Lo w0.heap.size ∧ o.ns.Lo w0.heap.size) := Lib.hid (by rw [ho]; exact ⟨hX4, hY4⟩)
    have hoe : o.en = tbEn ⟨nm, cxs, kxs.map (·.xs)⟩ := by rw [ho]; unfold Sc.en tbEn; rw [hX3, hY3]
    have hob : BkS wr (w.heap.size + 1 + 1) o := by rw [ho]; exact hj2.bk
    have hbr := HAp.out wr hj.out.ap
    have hz := Hz0.out
    have hRr : BkS wr (w.heap.size + 1) sc0 := (hj2.ap.other _ HR.out.all.2.2.2.2 (by omega)).trans HR.out
    have hTr : Bk wr w.heap.size #[.string nm, .slice cA k cc, .slice kA kn kc] 29 := (hj2.ap.other _ HT.out.lt (by omega)).trans HT.out
    obtain ⟨w4, hw4⟩ : ∃ w4, (wr.alloc (.cells #[.string o.name, .bool o.tb, .slice o.ks.A o.ks.n o.ks.c, .slice o.ns.A o.ns.n o.ns.c] 64)).alloc (.cells #[.slice A n c, .slice (some ⟨wr.heap.size, 0, none⟩) 1 1] 58) = w4 := ⟨_, rfl⟩
    have hb4 : Below wr.heap.size wr w4 := by rw [← hw4]; exact below_two _ _ _
    have hP : Bk w4 (wr.heap.size + 1) #[.slice A n c, .slice (some ⟨wr.heap.size, 0, none⟩) 1 1] 58 := by
     have := Bk.new (wr.alloc (.cells #[.string o.name, .bool o.tb, .slice o.ks.A o.ks.n o.ks.c, .slice o.ns.A o.ns.n o.ns.c] 64)) #[.slice A n c, .slice (some ⟨wr.heap.size, 0, none⟩) 1 1] 58
     rw [hw4] at this
     simpa using this
    have hSl : SlG w4 (some ⟨wr.heap.size, 0, none⟩) 4 rdSc [o] := by
     rw [← hw4]
     exact (SlG.new (w := wr) (E := 64) scOk.len [o] rfl).alloc _
    have hC := catSc_c (wr.heap.size + 1) A (some ⟨wr.heap.size, 0, none⟩) n c 1 1 xs [o] w4 (hP.cell 0) (hP.cell 1) hP.lt HL.out.len rfl (by omega) (by omega) (HL.out.sl.after (below_via hbr hb4)) hSl
    obtain ⟨h0, h1, h2, h3, lo⟩ := hob.all
    have HC := Lib.hid hC
    have Hw4 := Lib.hid hw4
    have Hb4 := Lib.hid hb4
    have Hbr := Lib.hid hbr
    have Hoi := Lib.hid hoi
    have Hoe := Lib.hid hoe
    have Hob := Lib.hid hob
    have HRr := Lib.hid hRr
    have HTr := Lib.hid hTr
    have Hz4 : Hid (w4.heap.size = wr.heap.size + 1 + 1) := Lib.hid (by rw [← hw4]; simp)
    clear hj2 hX2 hX3 hX4 hY4 hY2 hY3 hoi hoe hob hbr hRr hTr hw4 hb4 hP hSl hC hj hz ho
    go_upto_region 8 with fail
    go_wp2_with fail
    rw [Hw4.out]
    refine HC.out.mono ?_
    rintro e w5 ⟨z, rfl, hz, hb5⟩
    obtain ⟨Z, hZ1, hZ2, hZ3, _, _, _⟩ := hz.sx9 scOk.len
    subst hZ1
    obtain ⟨w6, hw6⟩ : ∃ w6, w5.alloc (.cells #[.slice Z.A Z.n Z.c] 58) = w6 := ⟨_, rfl⟩
    have hb6 : Below wr.heap.size wr w6 := by rw [← hw6]; exact below_al (below_via Hb4.out hb5) _
    have hbw : Below w.heap.size w w6 := below_via Hbr.out hb6
    have hQ : Bk w6 w5.heap.size #[.slice Z.A Z.n Z.c] 58 := by rw [← hw6]; exact Bk.new _ _ _
    have hoi6 : o.In w6 := Hoi.out.after hb6
    have hLL : ScL w6 Z.A Z.n (xs ++ [o]) := ⟨by rw [← hZ3]; exact hZ2.len, hZ2.max, by rw [← hZ3, ← hw6]; exact (hZ2.sl).alloc _, fun e he => by
     rcases List.mem_append.1 he with he | he
     · exact (HL.out.each e he).after hbw
     · obtain rfl := List.mem_singleton.1 he; exact hoi6⟩
    have hen : enL (xs ++ [o]) = enL xs ++ [tbEn ⟨nm, cxs, kxs.map (·.xs)⟩] := by unfold enL; rw [List.map_append, ← Hoe.out]; rfl
    have hob6 : BkS w6 (w.heap.size + 1 + 1) o := Hob.out.after hb6 lo
    have hR6 : BkS w6 (w.heap.size + 1) sc0 := HRr.out.after hb6 (by omega)
    have hT6 : Bk w6 w.heap.size #[.string nm, .slice cA k cc, .slice kA kn kc] 29 := HTr.out.after hb6 (by omega)
    have Hw6 : Hid ((w5.alloc (.cells #[.slice Z.A Z.n Z.c] 58)) = w6) := Lib.hid hw6
    have Hb6 := Lib.hid hb6
    have Hbw := Lib.hid hbw
    have HQ := Lib.hid hQ
    have Hoi6 := Lib.hid hoi6
    have HLL := Lib.hid hLL
    have Hen := Lib.hid hen
    have Hob6 := Lib.hid hob6
    have HR6 := Lib.hid hR6
    have HT6 := Lib.hid hT6
    clear hz hb5 hZ2 hZ3 hw6 hb6 hbw hQ hoi6 hLL hen hob6 hR6 hT6 h0 h1 h2 h3 lo HC Hb4 Hbr Hoi Hob HRr HTr Hz4 Hw4
    go_upto_region 9 with fail
    rw [Hw6.out]
    have t1 : w6.cell? ⟨w.heap.size, 1, none⟩ = some (.slice cA k cc) := HT6.out.cell 1
    have t2 : w6.cell? ⟨w.heap.size, 2, none⟩ = some (.slice kA kn kc) := HT6.out.cell 2
    have lt6 := HT6.out.lt
    obtain ⟨b, off, x0, rfl, hblt, hx, hc⟩ := Hc.out.2.atS (k := 0) (by rw [Hc.out.1]; exact a1)
    have hbw := Hbw.out
    have d0 : w6.cell? ⟨b, off, none⟩ = some (.string x0.name) := (hbw.cell (p := ⟨b, off, none⟩) hblt).trans (by have := hc 0 _ rfl; simpa using this)
    have d1 : w6.cell? ⟨b, off + 1, none⟩ = some (.int .i64 x0.kind) := (hbw.cell (p := ⟨b, off + 1, none⟩) hblt).trans (by have := hc 1 _ rfl; simpa using this)
    have d2 : w6.cell? ⟨b, off + 2, none⟩ = some (.bool x0.nul) := (hbw.cell (p := ⟨b, off + 2, none⟩) hblt).trans (by have := hc 2 _ rfl; simpa using this)
    have d3 : w6.cell? ⟨b, off + 3, none⟩ = some (.bool x0.uni) := (hbw.cell (p := ⟨b, off + 3, none⟩) hblt).trans (by have := hc 3 _ rfl; simpa using this)
    have d4 : w6.cell? ⟨b, off + 4, none⟩ = some (.string x0.ref) := (hbw.cell (p := ⟨b, off + 4, none⟩) hblt).trans (by have := hc 4 _ rfl; simpa using this)
    have d5 : w6.cell? ⟨b, off + 5, none⟩ = some (.int .i64 x0.act) := (hbw.cell (p := ⟨b, off + 5, none⟩) hblt).trans (by have := hc 5 _ rfl; simpa using this)
    have lb6 : b < w6.heap.size := Nat.lt_of_lt_of_le hblt hbw.size
    have hkey := key_c x0 w6
    obtain ⟨q1, hq1⟩ : ∃ q, scKey x0 = q := ⟨_, rfl⟩
    obtain ⟨q2, hq2⟩ : ∃ q, twiceC cxs = q := ⟨_, rfl⟩
    obtain ⟨q3, hq3⟩ : ∃ q, (cxs.any fun c => !scRef (enL (xs ++ [o])) c) = q := ⟨_, rfl⟩
    obtain ⟨q4, hq4⟩ : ∃ q, (kxs.any fun e : Sx Nd => !trB o.ks.xs e.xs) = q := ⟨_, rfl⟩
    have hks : o.ks.xs = cxs.map (·.kind) := congrArg En.ks Hoe.out
    have hE : scTab typeR (enL xs ++ [tbEn ⟨nm, cxs, kxs.map (·.xs)⟩]) ⟨nm, cxs, kxs.map (·.xs)⟩ = if !q1 || q2 then 91 else if q3 then 92 else if q4 then 93 else 0 := by
     unfold scTab
     have e1 : cxs.getD 0 ⟨emp, 0, false, false, emp, 0⟩ = x0 := by rw [List.getD_eq_getElem?_getD, hx]; rfl
     have e4 : ((kxs.map (·.xs)).any fun e => !truthE typeR e (cxs.map (·.kind))) = q4 := by
      rw [List.any_map, ← hq4, ← hks]
      congr 1
      funext e
      show (!truthE typeR e.xs o.ks.xs) = _
      rw [truth_tr]
     simp only [e1, hq1, hq2, e4, ← Hen.out, hq3]
    have hbad : ∀ n wN, scTab typeR (enL xs ++ [tbEn ⟨nm, cxs, kxs.map (·.xs)⟩]) ⟨nm, cxs, kxs.map (·.xs)⟩ = n → n ≠ 0 → Below w6.heap.size w6 wN → S (.returned (.tuple #[sc0.w, .int .i64 n])) (putL wN (w.heap.size + 1) 0 sc0.cl) := fun n wN hn1 hn2 hb => by
     rw [← HS.out]
     refine ⟨below_put (below_via Hbw.out hb) (by omega) _ _, ?_⟩
     have e : tabO (enL xs ++ [tbEn ⟨nm, cxs, kxs.map (·.xs)⟩]) ⟨nm, cxs, kxs.map (·.xs)⟩ = .inl n := by unfold tabO; rw [hn1, if_neg hn2]
     show (match tabO (enL xs ++ [tbEn ⟨nm, cxs, kxs.map (·.xs)⟩]) ⟨nm, cxs, kxs.map (·.xs)⟩ with | .inl n => _ | .inr g => _)
     rw [e]
    have HE := Lib.hid hE
    have Hbad := Lib.hid hbad
    have Hkey := Lib.hid hkey
    rw [hq1] at Hkey
    have HQ2 := Lib.hid hq2
    clear hE hbad hkey hq1 hq2 hc hx hbw
    have Hc6 := Lib.hid (fun u (hu : Below w6.heap.size w6 u) => shares_c (some ⟨b, off, none⟩) k cc cxs u Hc.out.1 Hcm.out.1 a3 a4 (Hc.out.2.after (below_via Hbw.out hu)))
    rw [HQ2.out] at Hc6
    have Hc7 := Lib.hid (fun u (hu : Below w6.heap.size w6 u) => hasCl_c 61 (.pointer (some ⟨w5.heap.size, 0, none⟩)) (fun c => !scRef (enL (xs ++ [o])) c) (some ⟨b, off, none⟩) k cc cxs u Hc.out.1 Hcm.out.1 (Hc.out.2.after (below_via Hbw.out hu)) (fun _ _ => by kernel_rfl)
     (fun y u2 _ hu2 => tab1_c y Z.A Z.n Z.c (xs ++ [o]) w5.heap.size u2 ((HQ.out.after (below_via hu hu2) HQ.out.lt).cell 0) (HQ.out.after (below_via hu hu2) HQ.out.lt).lt (HLL.out.after (below_via hu hu2)) (by rw [Hen.out]; exact Hne.out)))
    rw [hq3] at Hc7
    have Hc8 := Lib.hid (fun u (hu : Below w6.heap.size w6 u) => hasEx_c 64 (.pointer (some ⟨w.heap.size + 1 + 1, 0, none⟩)) (fun e => !trB o.ks.xs e.xs) kA kn kc kxs u Hk.out.1 Hcm.out.2 (Hk.out.2.1.after (below_via Hbw.out hu)) (fun _ _ => by kernel_rfl)
     (fun y u2 hy hu2 => tab2_c y o.ks.A o.ks.n o.ks.c o.ks.xs (w.heap.size + 1 + 1) u2 (Hob6.out.after (below_via hu hu2) Hob6.out.all.2.2.2.2).all.2.2.1 (Hob6.out.after (below_via hu hu2) Hob6.out.all.2.2.2.2).all.2.2.2.2 ((Hk.out.2.2 y hy).after (below_via Hbw.out (below_via hu hu2))) (H5.out y hy) Hoi6.out.ks.len ((Hoi6.out.after (below_via hu hu2)).ks.sl)))
    rw [hq4] at Hc8
    clear hq3 hq4
    go_wp2_with fail
    refine Hkey.out.mono ?_
    rintro e w7 ⟨rfl, hb7⟩
    have Hb7 := Lib.hid hb7
    clear hb7 d0 d1 d2 d3 d4 d5 Hkey
    have t1 : w7.cell? ⟨w.heap.size, 1, none⟩ = some (.slice (some ⟨b, off, none⟩) k cc) := (HT6.out.after Hb7.out lt6).cell 1
    have lt7 := (HT6.out.after Hb7.out lt6).lt
    cases q1
    case false =>
     have HF := Lib.hid (Hbad.out 91 w7 (by rw [HE.out]; rfl) (by decide) Hb7.out)
     have hR7 : BkS w7 (w.heap.size + 1) sc0 := HR6.out.after Hb7.out HR6.out.all.2.2.2.2
     have HR7 := Lib.hid hR7
     obtain ⟨r0, r1, r2, r3, rl⟩ := hR7.all
     obtain ⟨f0, f1, f2, f3⟩ := hR7.thaw
     clear hR7
     go_wp2
     change bodyPost _ _ _ _ _ (putL w7 (w.heap.size + 1) 0 sc0.cl)
     exact ret_sc2 (b := w.heap.size + 1) (x := sc0) (z := .int .i64 91) Tryz.results39 rfl rfl (Bk.put HR7.out sc0.cl rfl) rfl HF.out
    case true =>
     have HS8 := Lib.hid (Hc6.out w7 Hb7.out)
     go_wp2_with fail
     refine HS8.out.mono ?_
     rintro e w8 ⟨rfl, hb8⟩
     have Hb8 := Lib.hid (below_via Hb7.out hb8)
     clear hb8 HS8 t1 lt7
     have t1 : w8.cell? ⟨w.heap.size, 1, none⟩ = some (.slice (some ⟨b, off, none⟩) k cc) := (HT6.out.after Hb8.out lt6).cell 1
     have lt7 := (HT6.out.after Hb8.out lt6).lt
     cases q2
     case true =>
      have HF := Lib.hid (Hbad.out 91 w8 (by rw [HE.out]; rfl) (by decide) Hb8.out)
      have hR7 : BkS w8 (w.heap.size + 1) sc0 := HR6.out.after Hb8.out HR6.out.all.2.2.2.2
      have HR7 := Lib.hid hR7
      obtain ⟨r0, r1, r2, r3, rl⟩ := hR7.all
      obtain ⟨f0, f1, f2, f3⟩ := hR7.thaw
      clear hR7
      go_wp2
      change bodyPost _ _ _ _ _ (putL w8 (w.heap.size + 1) 0 sc0.cl)
      exact ret_sc2 (b := w.heap.size + 1) (x := sc0) (z := .int .i64 91) Tryz.results39 rfl rfl (Bk.put HR7.out sc0.cl rfl) rfl HF.out
     case false =>
      have HS9 := Lib.hid (Hc7.out w8 Hb8.out)
      go_wp2_with fail
      refine HS9.out.mono ?_
      rintro e w9 ⟨rfl, hb9⟩
      have Hb9 := Lib.hid (below_via Hb8.out hb9)
      clear hb9 HS9 t1 lt7
      have t2 : w9.cell? ⟨w.heap.size, 2, none⟩ = some (.slice kA kn kc) := (HT6.out.after Hb9.out lt6).cell 2
      have lt7 := (HT6.out.after Hb9.out lt6).lt
      cases q3
      case true =>
       have HF := Lib.hid (Hbad.out 92 w9 (by rw [HE.out]; rfl) (by decide) Hb9.out)
       have hR7 : BkS w9 (w.heap.size + 1) sc0 := HR6.out.after Hb9.out HR6.out.all.2.2.2.2
       have HR7 := Lib.hid hR7
       obtain ⟨r0, r1, r2, r3, rl⟩ := hR7.all
       obtain ⟨f0, f1, f2, f3⟩ := hR7.thaw
       clear hR7
       go_wp2
       change bodyPost _ _ _ _ _ (putL w9 (w.heap.size + 1) 0 sc0.cl)
       exact ret_sc2 (b := w.heap.size + 1) (x := sc0) (z := .int .i64 92) Tryz.results39 rfl rfl (Bk.put HR7.out sc0.cl rfl) rfl HF.out
      case false =>
       have HS10 := Lib.hid (Hc8.out w9 Hb9.out)
       go_wp2_with fail
       refine HS10.out.mono ?_
       rintro e w10 ⟨rfl, hb10⟩
       have Hb10 := Lib.hid (below_via Hb9.out hb10)
       clear hb10 HS10 t2 lt7
       cases q4
       case true =>
        have HF := Lib.hid (Hbad.out 93 w10 (by rw [HE.out]; rfl) (by decide) Hb10.out)
        have hR7 : BkS w10 (w.heap.size + 1) sc0 := HR6.out.after Hb10.out HR6.out.all.2.2.2.2
        have HR7 := Lib.hid hR7
        obtain ⟨r0, r1, r2, r3, rl⟩ := hR7.all
        obtain ⟨f0, f1, f2, f3⟩ := hR7.thaw
        clear hR7
        go_wp2
        change bodyPost _ _ _ _ _ (putL w10 (w.heap.size + 1) 0 sc0.cl)
        exact ret_sc2 (b := w.heap.size + 1) (x := sc0) (z := .int .i64 93) Tryz.results39 rfl rfl (Bk.put HR7.out sc0.cl rfl) rfl HF.out
       case false =>
        have hR7 : BkS w10 (w.heap.size + 1) sc0 := HR6.out.after Hb10.out HR6.out.all.2.2.2.2
        have hO7 : BkS w10 (w.heap.size + 1 + 1) o := Hob6.out.after Hb10.out Hob6.out.all.2.2.2.2
        have hF : S (.returned (.tuple #[o.w, .int .i64 0])) (putL w10 (w.heap.size + 1) 0 o.cl) := by
         rw [← HS.out]
         have hbl := below_put (below_via Hbw.out Hb10.out) (by omega) o.cl 0 (b := w.heap.size + 1)
         refine ⟨hbl, ?_⟩
         have e : tabO (enL xs ++ [tbEn ⟨nm, cxs, kxs.map (·.xs)⟩]) ⟨nm, cxs, kxs.map (·.xs)⟩ = .inr (tbEn ⟨nm, cxs, kxs.map (·.xs)⟩) := by unfold tabO; rw [HE.out]; rfl
         show (match tabO (enL xs ++ [tbEn ⟨nm, cxs, kxs.map (·.xs)⟩]) ⟨nm, cxs, kxs.map (·.xs)⟩ with | .inl n => _ | .inr g => _)
         rw [e]
         have hz := Hz0.out
         have hps : (putL w10 (w.heap.size + 1) 0 o.cl).heap.size = w10.heap.size := putL_size _ _ _ _
         have hi10 := Hoi6.out.after Hb10.out
         exact ⟨o, rfl, ⟨hi10.ks.same (Nat.le_of_eq hps.symm) fun k hk => putL_heap _ _ _ _ _ (by have := Holo.out.1 k hk; omega), hi10.ns.same (Nat.le_of_eq hps.symm) fun k hk => putL_heap _ _ _ _ _ (by have := Holo.out.2 k hk; omega)⟩, Hoe.out, fun k hk => by have := Holo.out.1 k hk; omega, fun k hk => by have := Holo.out.2 k hk; omega⟩
        have HF := Lib.hid hF
        have HR7 := Lib.hid hR7
        obtain ⟨r0, r1, r2, r3, rl⟩ := hR7.all
        obtain ⟨f0, f1, f2, f3⟩ := hR7.thaw
        obtain ⟨o0, o1, o2, o3, ol⟩ := hO7.all
        clear hR7 hF hO7
        go_wp2
        change bodyPost _ _ _ _ _ (putL w10 (w.heap.size + 1) 0 o.cl)
        exact ret_sc2 (b := w.heap.size + 1) (x := o) (z := .int .i64 0) Tryz.results39 rfl rfl (Bk.put HR7.out o.cl rfl) rfl HF.out
def JoinS (o : Option (List Int)) (w : World) (e : Ending) (w' : World) : Prop := Below w.heap.size w w' ∧ match o with
 | none => e = .returned (.tuple #[.slice none 0 0, .bool false])
 | some fk => ∃ x : Sx Int, e = .returned (.tuple #[.slice x.A x.n x.c, .bool true]) ∧ x.In w' 1 rdI ∧ x.xs = fk
theorem JoinS.no {w w' : World} (h : Below w.heap.size w w') : JoinS none w (.returned (.tuple #[.slice none 0 0, .bool false])) w' := ⟨h, rfl⟩
theorem JoinS.yes {fk : List Int} {x : Sx Int} {w w' : World} (h : Below w.heap.size w w') (hx : x.In w' 1 rdI) (e : x.xs = fk) : JoinS (some fk) w (.returned (.tuple #[.slice x.A x.n x.c, .bool true])) w' := ⟨h, x, rfl, hx, e⟩
set_option maxHeartbeats 8000000 in
theorem join9_c (v : Vm) (A : Option Addr) (n c : Nat) (xs : List Sc) (w : World) (hL : ScL w A n xs) (hle : ∀ e ∈ enL xs, e.ks.length ≤ 1000) :
 Calls Tryz.prog 66 #[.slice A n c, v.w] w (JoinS (scJoin (enL xs) v.vw) w) := by
 obtain ⟨nm, fr, wt, o0, o1, wh, pk, gr, ag⟩ := v
 show Calls _ _ _ _ (JoinS (scJoin (enL xs) ⟨nm, fr, wt, o0, o1, wh.xs, pk.xs, gr, ag.xs⟩) w)
 obtain ⟨R, hR⟩ : ∃ R, scJoin (enL xs) ⟨nm, fr, wt, o0, o1, wh.xs, pk.xs, gr, ag.xs⟩ = R := ⟨_, rfl⟩
 rw [hR]
 unfold scJoin at hR
 simp only at hR
 obtain ⟨S, hS⟩ : ∃ S, JoinS R w = S := ⟨_, rfl⟩
 rw [hS]
 obtain ⟨w0, hw0⟩ : ∃ w0, w.alloc (.cells #[.string nm, .string fr, .string wt, .int .i64 o0, .int .i64 o1, .slice wh.A wh.n wh.c, .slice pk.A pk.n pk.c, .bool gr, .slice ag.A ag.n ag.c] 36) = w0 := ⟨_, rfl⟩
 have hB0 : Below w.heap.size w w0 := by rw [← hw0]; exact below_one _ _
 have hK : Bk w0 w.heap.size #[.string nm, .string fr, .string wt, .int .i64 o0, .int .i64 o1, .slice wh.A wh.n wh.c, .slice pk.A pk.n pk.c, .bool gr, .slice ag.A ag.n ag.c] 36 := by rw [← hw0]; exact Bk.new w _ _
 have HS := Lib.hid hS
 have HB0 := Lib.hid hB0
 have HK := Lib.hid hK
 have HW0 := Lib.hid hw0
 have HL := Lib.hid hL
 have Hle := Lib.hid hle
 have HF := Lib.hid (find9_c A n c xs fr w0 (hL.after hB0))
 have HR := Lib.hid hR
 have k1 : w0.cell? ⟨w.heap.size, 1, none⟩ = some (.string fr) := hK.cell 1
 have lk := hK.lt
 clear hS hw0 hB0 hK hL hle hR
 go_enter Tryz.func66, Tryz.ntmps66
 go_upto_region 1 with fail
 rw [HW0.out]
 go_wp2_with fail
 refine HF.out.mono ?_
 rintro e w1 ⟨s, ok, rfl, hsi, hcase, hb1⟩
 obtain ⟨w2, hw2⟩ : ∃ w2, w1.alloc (.cells #[.string s.name, .bool s.tb, .slice s.ks.A s.ks.n s.ks.c, .slice s.ns.A s.ns.n s.ns.c] 64) = w2 := ⟨_, rfl⟩
 have hb2 : Below w0.heap.size w0 w2 := by rw [← hw2]; exact below_al hb1 _
 have hK2 := HK.out.after hb2 HK.out.lt
 have hS2 : BkS w2 w1.heap.size s := by rw [← hw2]; exact Bk.new _ _ _
 have Hsi := Lib.hid (hsi.after (by rw [← hw2]; exact below_one _ _ : Below w1.heap.size w1 w2))
 have Hcase := Lib.hid hcase
 have HB2 := Lib.hid (below_via HB0.out hb2)
 have HK2 := Lib.hid hK2
 have HS2 := Lib.hid hS2
 have Hw2 := Lib.hid hw2
 have k2 : w2.cell? ⟨w.heap.size, 2, none⟩ = some (.string wt) := hK2.cell 2
 have lk2 := hK2.lt
 obtain ⟨s0, s1, s2, s3, ls⟩ := hS2.all
 clear hsi hcase hb1 hb2 hK2 hS2 hw2 HF k1 lk
 go_upto_region 2 with fail
 rw [Hw2.out]
 cases ok
 case false =>
  have hs : s = sc0 ∧ findE (enL xs) fr = none := by
   rcases Hcase.out with h | h
   · exact h.2
   · cases h.1
  obtain ⟨hs1, hs2⟩ := hs
  have hr : none = R := by rw [← HR.out, hs2]
  subst hr
  subst hs1
  have HF := Lib.hid (JoinS.no HB2.out)
  rw [HS.out] at HF
  clear hs2
  go_wp2
  exact HF.out
 case true =>
  have hf : findE (enL xs) fr = some s.en := by
   rcases Hcase.out with h | h
   · cases h.1
   · exact h.2
  have hr := HR.out
  rw [hf] at hr
  simp only at hr
  have hsl : s.ks.n ≤ 1000 := by rw [← Hsi.out.ks.len]; exact Hle.out s.en (List.mem_of_find?_eq_some hf)
  by_cases he : wt.toList.isEmpty = true
  · rw [if_pos he] at hr
    have HF := Lib.hid (JoinS.yes HB2.out Hsi.out.ks (show s.ks.xs = s.en.ks from rfl))
    rw [hr, HS.out] at HF
    clear hf hr HR
    go_wp2
    exact HF.out
  · rw [if_neg he] at hr
    have he2 : wt.toList.isEmpty = false := by simpa using he
    have HFw := Lib.hid (find9_c A n c xs wt w2 (HL.out.after HB2.out))
    have HR2 := Lib.hid hr
    clear hf hr HR he s2
    go_wp2_with fail
    refine HFw.out.mono ?_
    rintro e w3 ⟨q, ok2, rfl, hqi, hcase2, hb3⟩
    obtain ⟨w4, hw4⟩ : ∃ w4, w3.alloc (.cells #[.string q.name, .bool q.tb, .slice q.ks.A q.ks.n q.ks.c, .slice q.ns.A q.ns.n q.ns.c] 64) = w4 := ⟨_, rfl⟩
    have hb4 : Below w2.heap.size w2 w4 := by rw [← hw4]; exact below_al hb3 _
    have hK4 := HK2.out.after hb4 HK2.out.lt
    have hS4 : BkS w4 w1.heap.size s := HS2.out.after hb4 HS2.out.all.2.2.2.2
    have hQ4 : BkS w4 w3.heap.size q := by rw [← hw4]; exact Bk.new _ _ _
    have Hqi := Lib.hid (hqi.after (by rw [← hw4]; exact below_one _ _ : Below w3.heap.size w3 w4))
    have Hsi4 := Lib.hid (Hsi.out.after hb4)
    have Hcase2 := Lib.hid hcase2
    have HB4 := Lib.hid (below_via HB2.out hb4)
    have Hw4 := Lib.hid hw4
    have k3 : w4.cell? ⟨w.heap.size, 3, none⟩ = some (.int .i64 o0) := hK4.cell 3
    have k4 : w4.cell? ⟨w.heap.size, 4, none⟩ = some (.int .i64 o1) := hK4.cell 4
    have lk4 := hK4.lt
    obtain ⟨s0', s1', s2', s3', ls'⟩ := hS4.all
    obtain ⟨q0, q1, q2, q3, lq⟩ := hQ4.all
    have HC := Lib.hid (kat_c s.ks.A s.ks.n s.ks.c s.ks.xs o0 w4 Hsi4.out.ks.len Hsi4.out.ks.max Hsi4.out.ks.sl)
    have HD := Lib.hid (kat_c q.ks.A q.ks.n q.ks.c q.ks.xs o1 w4 Hqi.out.ks.len Hqi.out.ks.max Hqi.out.ks.sl)
    obtain ⟨K1, hK1⟩ : ∃ K, kAt s.ks.xs o0 = K := ⟨_, rfl⟩
    obtain ⟨K2, hK2'⟩ : ∃ K, kAt q.ks.xs o1 = K := ⟨_, rfl⟩
    rw [hK1] at HC
    rw [hK2'] at HD
    have HK1 := Lib.hid hK1
    have HK2' := Lib.hid hK2'
    clear hqi hcase2 hb3 hb4 hK4 hS4 hQ4 hw4 hK1 hK2' HFw k2 lk2 s0 s1 s3 ls
    go_upto_region 5 with fail
    rw [Hw4.out]
    go_wp2_with fail
    refine HC.out.mono ?_
    rintro e w5 ⟨rfl, rfl⟩
    clear HC
    cases ok2
    case false =>
     have hs2 : findE (enL xs) wt = none := by
      rcases Hcase2.out with h | h
      · exact h.2.2
      · cases h.1
     have hr : none = R := by rw [← HR2.out, hs2]
     subst hr
     have HF := Lib.hid (JoinS.no HB4.out)
     rw [HS.out] at HF
     clear hs2
     go_wp2
     exact HF.out
    case true =>
     have hf : findE (enL xs) wt = some q.en := by
      rcases Hcase2.out with h | h
      · cases h.1
      · exact h.2
     have hr := HR2.out
     rw [hf] at hr
     simp only at hr
     have hql : q.ks.n ≤ 1000 := by rw [← Hqi.out.ks.len]; exact Hle.out q.en (List.mem_of_find?_eq_some hf)
     rw [show kAt s.en.ks o0 = K1 from HK1.out, show kAt q.en.ks o1 = K2 from HK2'.out] at hr
     clear hf HR2
     by_cases h0 : K1 = 0
     · have h0' : (K1 == 0) = true := by simpa using h0
       rw [if_pos (.inl h0)] at hr
       subst hr
       have HF := Lib.hid (JoinS.no HB4.out)
       rw [HS.out] at HF
       clear h0
       go_wp2
       exact HF.out
     · have h0' : (K1 == 0) = false := by simpa using h0
       by_cases h1 : K1 = K2
       · have h1' : (K1 != K2) = false := by simpa using h1
         rw [if_neg (by rintro (h | h); exact h0 h; exact h h1)] at hr
         have Hr := Lib.hid hr
         obtain ⟨w6, hw6⟩ : ∃ w6, w5.alloc (.cells #[.slice s.ks.A s.ks.n s.ks.c, .slice q.ks.A q.ks.n q.ks.c] 33) = w6 := ⟨_, rfl⟩
         have hb6 : Below w5.heap.size w5 w6 := by rw [← hw6]; exact below_one _ _
         have hP : Bk w6 w5.heap.size #[.slice s.ks.A s.ks.n s.ks.c, .slice q.ks.A q.ks.n q.ks.c] 33 := by rw [← hw6]; exact Bk.new _ _ _
         have HCt := Lib.hid (catI_c w5.heap.size s.ks.A q.ks.A s.ks.n s.ks.c q.ks.n q.ks.c s.ks.xs q.ks.xs w6 (hP.cell 0) (hP.cell 1) hP.lt Hsi4.out.ks.len Hqi.out.ks.len hsl hql (Hsi4.out.ks.sl.after hb6) (Hqi.out.ks.sl.after hb6))
         have HB6 := Lib.hid (below_via HB4.out hb6)
         have Hw6 := Lib.hid hw6
         clear h0 h1 hr hw6 hb6 hP
         go_wp2_with fail
         refine HD.out.mono ?_
         rintro e w7 ⟨rfl, rfl⟩
         go_wp2_with fail
         rw [Hw6.out]
         refine HCt.out.mono ?_
         rintro e w8 ⟨z, rfl, hz, hb8⟩
         obtain ⟨Z, hZ1, hZ2, hZ3, _, _, _⟩ := hz.sx9 iOk.len
         subst hZ1
         have HF := Lib.hid (JoinS.yes (below_via HB6.out hb8) hZ2 (hZ3.trans (rfl : s.ks.xs ++ q.ks.xs = s.en.ks ++ q.en.ks)))
         rw [show some (s.ks.xs ++ q.ks.xs) = R from Hr.out, HS.out] at HF
         clear hz hZ2 hZ3 hb8
         go_wp2
         exact HF.out
       · have h1' : (K1 != K2) = true := by simpa using h1
         rw [if_pos (.inr h1)] at hr
         subst hr
         have HF := Lib.hid (JoinS.no HB4.out)
         rw [HS.out] at HF
         clear h0 h1
         go_wp2_with fail
         refine HD.out.mono ?_
         rintro e w7 ⟨rfl, rfl⟩
         go_wp2
         exact HF.out
theorem rep_splice {cur : List Value} {n m k : Nat} {v : Value} (hl : cur.length = n) (hm : cur.take m = List.replicate m v) (hk : m + k ≤ n) : (splice cur m (List.replicate k v)).length = n ∧ (splice cur m (List.replicate k v)).take (m + k) = List.replicate (m + k) v := by
 refine ⟨by rw [length_splice _ _ _ (by simp; omega)]; exact hl, ?_⟩
 unfold splice
 rw [hm, ← List.append_assoc, List.replicate_append_replicate, List.take_append_of_le_length (by simp)]
 exact List.take_of_length_le (by simp)
theorem rep_src {W : World} {g0 d : Nat} (h : W.cell? ⟨g0, 0, none⟩ = some (.bool true)) : 0 < [Value.bool true].length → some (⟨d, 0, none⟩ : Addr) = some ⟨d, 0, none⟩ ∧ ∃ ad, some (⟨g0, 0, none⟩ : Addr) = some ad ∧ ∀ j v, [Value.bool true][j]? = some v → W.cell? (ad.add j) = some v := fun _ => ⟨rfl, _, rfl, fun j v hj => by
 cases j with
 | zero =>
   simp at hj
   subst hj
   rw [Go.WideShapes.add_plain]
   exact h
 | succ j => simp at hj⟩
theorem rep_src2 {W : World} {g d : Nat} {cs : List Value} (h : ∀ j v, cs[j]? = some v → W.cell? ⟨g, j, none⟩ = some v) : 0 < cs.length → some (⟨g, d, none⟩ : Addr) = some ⟨g, d, none⟩ ∧ ∃ ad, some (⟨g, 0, none⟩ : Addr) = some ad ∧ ∀ j v, cs[j]? = some v → W.cell? (ad.add j) = some v := fun _ => ⟨rfl, _, rfl, fun j v hj => by
 rw [Go.WideShapes.add_plain, Nat.zero_add]
 exact h j v hj⟩
set_option maxHeartbeats 8000000 in
theorem rep_c (n g0 : Nat) (w : World) (h0 : w.cell? ⟨g0, 0, none⟩ = some (.bool true)) (hg0 : g0 < w.heap.size) (hn : n ≤ 40) (hn1 : 1 ≤ n) :
 Calls Tryz.prog 69 #[.slice (some ⟨g0, 0, none⟩) 1 1, .int .i64 (n : Int)] w fun e w' => ∃ x : Sx Bool, e = .returned (.slice x.A x.n x.c) ∧ x.In w' 1 rdB ∧ x.xs = List.replicate n true ∧ x.Lo w.heap.size ∧ Below w.heap.size w w' := by
 have hM := Tryz.bits_Mul 1 n (by omega) (by omega) w
 rw [show 1 * n / 18446744073709551616 = 0 by omega, show 1 * n % 18446744073709551616 = n by omega] at hM
 have HM := Lib.hid hM
 obtain ⟨cs, hcs, hmk0⟩ := make_run bOk n (by omega) (by unfold maxLen; omega)
 have hmk := hmk0 w
 clear hmk0
 have HB0 := Lib.hid (below_one w (.cells cs 4))
 have hG0 : (w.alloc (.cells cs 4)).heap[w.heap.size]? = some (.cells cs 4 (0, 0)) := alloc_at w _ _
 have hcs' : cs.toList.length = n := by rw [Array.length_toList, hcs, Nat.mul_one]
 obtain ⟨cl, hcl⟩ : ∃ cl, cs.toList = cl := ⟨_, rfl⟩
 have hcs2 : cs = cl.toArray := by rw [← hcl]
 subst hcs2
 rw [hcl] at hcs'
 obtain ⟨W, hW⟩ : ∃ W, w.alloc (.cells cl.toArray 4) = W := ⟨_, rfl⟩
 rw [hW] at hmk HB0 hG0
 have HG0 := Lib.hid hG0
 have h0W : W.cell? ⟨g0, 0, none⟩ = some (.bool true) := (HB0.out.cell (p := ⟨g0, 0, none⟩) hg0).trans h0
 have hWs : w.heap.size < W.heap.size := by rw [← hW]; simp
 have Hl := Lib.hid hcs'
 clear hM hcs hcl hcs' hG0 hW
 go_enter Tryz.func69, Tryz.ntmps69
 go_wp2_with fail
 refine HM.out.mono ?_
 rintro e w1 ⟨rfl, rfl⟩
 clear HM
 have HA1 : Hid ([Value.bool true].length = Nat.min 1 n) := Lib.hid (by show 1 = min 1 n; omega)
 have HA3 : Hid (0 + [Value.bool true].length ≤ cl.length) := Lib.hid (by have := Hl.out; simp; omega)
 have HA4 : Hid (∀ v ∈ [Value.bool true], v.oneCell' = true) := Lib.hid fun v hv => by simp at hv; subst hv; rfl
 go_wp2_with (refine wpList_copy_splice rfl (.tmp 31) (.tmp 32) 42 42 rfl 4 Tryz.underlying42 (by kernel_rfl) (some ⟨w1.heap.size, 0, none⟩) (some ⟨g0, 0, none⟩) n n 1 1 rfl rfl w1.heap.size 0 cl 4 HG0.out [.bool true] HA1.out (rep_src h0W) HA3.out HA4.out w1.heap.size w1 HB0.out (Nat.le_refl _) ?_; intro w2 hG2 hb2; have HB2 := Lib.hid hb2; clear hb2)
 have hs2 := HB2.out.size
 have HL1 : Hid ((splice cl 0 [Value.bool true]).length = n ∧ (splice cl 0 [Value.bool true]).take 1 = List.replicate 1 (.bool true)) := Lib.hid (by
  have := rep_splice (v := .bool true) (m := 0) (k := 1) Hl.out rfl (by omega)
  simpa using this)
 obtain ⟨c1, hc1⟩ : ∃ c1, splice cl 0 [Value.bool true] = c1 := ⟨_, rfl⟩
 rw [hc1] at hG2 HL1
 clear hc1 h0W hmk
 go_wp2_with fail
 go_loopw [8] (fun q wr => ∃ (m : Nat) (cur : List Value), 1 ≤ m ∧ m ≤ n ∧ q = .int .i64 (m : Int) ∧ Hid (cur.length = n ∧ cur.take m = List.replicate m (.bool true)) ∧ Hid (wr.heap[w1.heap.size]? = some (.cells cur.toArray 4 (0, 0))) ∧ Hid (Below w1.heap.size w1 wr)) (fun q _ => n - (intOf q).toNat)
 case atStart => exact ⟨1, c1, Nat.le_refl _, hn1, rfl, HL1, hG2, HB2⟩
 case round =>
  clear HL1 hG2 HB2 hs2 HG0 HB0 Hl
  obtain ⟨m, cur, hm1, hm, rfl, hl, hg, hb⟩ := hrel
  by_cases hlt : m < n
  · obtain ⟨k, hk⟩ : ∃ k, k = min m (n - m) := ⟨_, rfl⟩
    have hk1 : 1 ≤ k := by omega
    have hkm : k ≤ m := by omega
    have hkn : m + k ≤ n := by omega
    have hmin : Nat.min m (n - m) = k := hk.symm
    have hne : ¬ n = m := by omega
    have hgo : (m : Int) < n := by omega
    have HSp := Lib.hid (rep_splice (v := .bool true) hl.out.1 hl.out.2 hkn)
    have hbs := hb.out.size
    have hcell : ∀ j v, (List.replicate k (Value.bool true))[j]? = some v → wr.drew.cell? ⟨w1.heap.size, j, none⟩ = some v := fun j v hj => by
     have hj2 := (List.getElem?_eq_some_iff.1 hj).1
     rw [List.length_replicate] at hj2
     rw [List.getElem?_replicate_of_lt hj2] at hj
     have e : cur[j]? = some (.bool true) := by
      have := hl.out.2
      have e2 : (cur.take m)[j]? = some (.bool true) := by rw [this, List.getElem?_replicate_of_lt (by omega)]
      rwa [List.getElem?_take, if_pos (by omega)] at e2
     have hh : wr.drew.heap[w1.heap.size]? = some (.cells cur.toArray 4 (0, 0)) := hg.out
     simp only [World.cell?, hh, Option.isSome_none, Bool.false_eq_true, if_false, List.getElem?_toArray]
     rw [e, ← hj]
    have Hcell := Lib.hid hcell
    have Hk := Lib.hid hmin
    clear hk hmin hcell
    go_wp2_with fail
    have HA5 : Hid ((List.replicate k (Value.bool true)).length = Nat.min m (n - m)) := Lib.hid (by rw [List.length_replicate]; exact Hk.out.symm)
    have HA6 : Hid (m + (List.replicate k (Value.bool true)).length ≤ cur.length) := Lib.hid (by rw [List.length_replicate, hl.out.1]; exact hkn)
    have HA7 : Hid (∀ v ∈ List.replicate k (Value.bool true), v.oneCell' = true) := Lib.hid fun v hv => by rw [(List.mem_replicate.1 hv).2]; rfl
    obtain ⟨ck, hck⟩ : ∃ ck, List.replicate k (Value.bool true) = ck := ⟨_, rfl⟩
    rw [hck] at HA5 HA6 HA7 HSp Hcell
    have Hck : Hid (ck.length = k) := Lib.hid (by rw [← hck, List.length_replicate])
    clear hck
    have Hwr : Hid (IntKind.i64.wrap ((m : Int) + (k : Int)) = ((m + k : Nat) : Int)) := Lib.hid (by rw [IntKind.wrap_i64]; omega)
    go_region_held3 (fun _ => True) (trivial) (first | (refine step_copy_splice (by rfl) (.tmp 41) (.tmp 44) 42 42 (by rfl) 4 Tryz.underlying42 (by kernel_rfl) (some ⟨w1.heap.size, m, none⟩) (some ⟨w1.heap.size, 0, none⟩) (n - m) (n - m) m n (by rfl) (by rfl) w1.heap.size m cur 4 hg.out ck HA5.out (rep_src2 Hcell.out) HA6.out HA7.out w1.heap.size w1 hb.out.drew (Nat.le_refl _) ?_; intro w3 hG3 hb3; rw [Hck.out]; have HB3 := Lib.hid hb3; clear hb3))
    go_wp2
    go_roundw
    case rel => exact ⟨m + k, splice cur m ck, by omega, by omega, congrArg (Value.int .i64) Hwr.out, HSp, hG3, HB3⟩
    case measure =>
     have e := Hwr.out
     simp [intOf, e]
     omega
  · obtain rfl : m = n := by omega
    have hbl := hb.out
    have hx : SlG wr (some ⟨w1.heap.size, 0, none⟩) 1 rdB (List.replicate m true) := by
     have e : cur = List.replicate m (Value.bool true) := by rw [← hl.out.2, List.take_of_length_le (by rw [hl.out.1]; exact Nat.le_refl _)]
     have hh := hg.out
     refine .inr ⟨w1.heap.size, 0, rfl, (Array.getElem?_eq_some_iff.1 hh).1, fun i x hx j u hu => ?_⟩
     have hi := (List.getElem?_eq_some_iff.1 hx).1
     rw [List.length_replicate] at hi
     rw [List.getElem?_replicate_of_lt hi] at hx
     obtain rfl := Option.some.inj hx
     cases j with
     | zero =>
       simp [rdB] at hu
       subst hu
       simp only [World.cell?, hh, Option.isSome_none, Bool.false_eq_true, if_false, List.getElem?_toArray]
       rw [e, show 0 + i * 1 + 0 = i by omega, List.getElem?_replicate_of_lt hi]
     | succ j => simp [rdB] at hu
    have Hx := Lib.hid hx
    clear hl hg hbl hx
    go_wp2
    go_ret
    exact ⟨⟨some ⟨w1.heap.size, 0, none⟩, m, m, List.replicate m true⟩, rfl, ⟨List.length_replicate .., (show m ≤ maxLen by unfold maxLen; omega), Hx.out⟩, rfl, fun k hk => by simp at hk; omega, hb.out⟩
attribute [local go_sem ↓] Go.wp_at_zero Go.wp_at_succ
def viewO (g : List En) (v : Vw) : Int ⊕ En := match scView typeR g v with
 | none => .inl 94
 | some e => .inr e
structure Vm.Ask (v : Vm) : Prop where
 p : v.pick.n ≤ 40
 a : v.aggs.n ≤ 40
 tx : ∀ y ∈ v.whr.xs, y.v.s.size ≤ maxLen
structure VwJ (w : World) (R : Nat) (nm : ByteArray) (ks : List Int) (s : Value) (wy : World) : Prop where
 ex : ∃ (O : Nat) (x : Sx Int), s = .pointer (some ⟨O, 0, none⟩) ∧ Bk wy O #[.string nm, .bool false, .slice x.A x.n x.c, .slice none 0 0] 64 ∧ x.In wy 1 rdI ∧ x.xs = ks ∧ x.Lo (R + 1) ∧ (∀ k, x.A.map (·.block) = some k → k ≠ O) ∧ R < O
 b : Below w.heap.size w wy
 r : BkS wy R sc0
set_option maxHeartbeats 16000000 in
theorem view9_c (v : Vm) (A : Option Addr) (n c : Nat) (xs : List Sc) (w : World) (hL : ScL w A n xs) (hv : v.In w) (hA : v.Ask) (hle : ∀ e ∈ enL xs, e.ks.length ≤ 1000) :
 Calls Tryz.prog 40 #[.slice A n c, v.w] w (SrcS (viewO (enL xs) v.vw) w) := by
 obtain ⟨nm, fr, wt, o0, o1, ⟨hA1, hn1, hc1, hxs⟩, ⟨pA, pn, pc, pxs⟩, gr, ⟨aA, an, ac, axs⟩⟩ := v
 obtain ⟨S, hS⟩ : ∃ S, SrcS (viewO (enL xs) (Vm.vw ⟨nm, fr, wt, o0, o1, ⟨hA1, hn1, hc1, hxs⟩, ⟨pA, pn, pc, pxs⟩, gr, ⟨aA, an, ac, axs⟩⟩)) w = S := ⟨_, rfl⟩
 rw [hS]
 obtain ⟨w0, hw0⟩ : ∃ w0, (w.alloc (.cells #[.string nm, .string fr, .string wt, .int .i64 o0, .int .i64 o1, .slice hA1 hn1 hc1, .slice pA pn pc, .bool gr, .slice aA an ac] 36)).alloc (.cells #[.string emp, .bool false, .slice none 0 0, .slice none 0 0] 64) = w0 := ⟨_, rfl⟩
 have hz0 : w0.heap.size = w.heap.size + 1 + 1 := by rw [← hw0]; simp
 have hB0 : Below w.heap.size w w0 := by rw [← hw0]; exact below_two _ _ _
 have hK : Bk w0 w.heap.size #[.string nm, .string fr, .string wt, .int .i64 o0, .int .i64 o1, .slice hA1 hn1 hc1, .slice pA pn pc, .bool gr, .slice aA an ac] 36 := by rw [← hw0]; exact (Bk.new w _ _).alloc _
 have hR : BkS w0 (w.heap.size + 1) sc0 := by
  have := Bk.new (w.alloc (.cells #[.string nm, .string fr, .string wt, .int .i64 o0, .int .i64 o1, .slice hA1 hn1 hc1, .slice pA pn pc, .bool gr, .slice aA an ac] 36)) #[.string emp, .bool false, .slice none 0 0, .slice none 0 0] 64
  rw [hw0] at this
  simpa [BkS, sc0] using this
 have HS := Lib.hid hS
 have HB0 := Lib.hid hB0
 have HK := Lib.hid hK
 have HR := Lib.hid hR
 have HW0 := Lib.hid hw0
 have Hz0 := Lib.hid hz0
 have HV := Lib.hid hv
 have HAs := Lib.hid hA
 have HJ := Lib.hid (join9_c ⟨nm, fr, wt, o0, o1, ⟨hA1, hn1, hc1, hxs⟩, ⟨pA, pn, pc, pxs⟩, gr, ⟨aA, an, ac, axs⟩⟩ A n c xs w0 (hL.after hB0) hle)
 obtain ⟨c0, c1, c2, c3, c4, c5, c6, c7, c8⟩ : w0.cell? ⟨w.heap.size, 0, none⟩ = some (.string nm) ∧ w0.cell? ⟨w.heap.size, 1, none⟩ = some (.string fr) ∧ w0.cell? ⟨w.heap.size, 2, none⟩ = some (.string wt) ∧ w0.cell? ⟨w.heap.size, 3, none⟩ = some (.int .i64 o0) ∧ w0.cell? ⟨w.heap.size, 4, none⟩ = some (.int .i64 o1) ∧ w0.cell? ⟨w.heap.size, 5, none⟩ = some (.slice hA1 hn1 hc1) ∧ w0.cell? ⟨w.heap.size, 6, none⟩ = some (.slice pA pn pc) ∧ w0.cell? ⟨w.heap.size, 7, none⟩ = some (.bool gr) ∧ w0.cell? ⟨w.heap.size, 8, none⟩ = some (.slice aA an ac) := ⟨hK.cell 0, hK.cell 1, hK.cell 2, hK.cell 3, hK.cell 4, hK.cell 5, hK.cell 6, hK.cell 7, hK.cell 8⟩
 have lk := hK.lt
 have Hbad : Hid (viewO (enL xs) (Vm.vw ⟨nm, fr, wt, o0, o1, ⟨hA1, hn1, hc1, hxs⟩, ⟨pA, pn, pc, pxs⟩, gr, ⟨aA, an, ac, axs⟩⟩) = .inl 94 → ∀ wN, Below w0.heap.size w0 wN → S (.returned (.tuple #[sc0.w, .int .i64 94])) (putL wN (w.heap.size + 1) 0 sc0.cl)) := Lib.hid fun he wN hb => by
  rw [← hS]
  refine ⟨below_put (below_via hB0 hb) (by omega) _ _, ?_⟩
  rw [he]
 have Hbad2 : Hid (∀ wN, Below w.heap.size w wN → viewO (enL xs) (Vm.vw ⟨nm, fr, wt, o0, o1, ⟨hA1, hn1, hc1, hxs⟩, ⟨pA, pn, pc, pxs⟩, gr, ⟨aA, an, ac, axs⟩⟩) = .inl 94 → S (.returned (.tuple #[sc0.w, .int .i64 94])) (putL wN (w.heap.size + 1) 0 sc0.cl)) := Lib.hid fun wN hb he => by
  rw [← hS]
  refine ⟨below_put hb (by omega) _ _, ?_⟩
  rw [he]
 clear hS hw0 hB0 hK hR hz0 hv hA hL hle
 go_enter Tryz.func40, Tryz.ntmps40
 go_upto_region 1 with fail
 rw [HW0.out]
 go_wp2_with fail
 refine HJ.out.mono ?_
 rintro e w1 ⟨hb1, hj⟩
 have HB1 := Lib.hid hb1
 have HK1 : Hid (Bk w1 w.heap.size #[.string nm, .string fr, .string wt, .int .i64 o0, .int .i64 o1, .slice hA1 hn1 hc1, .slice pA pn pc, .bool gr, .slice aA an ac] 36) := Lib.hid (HK.out.after hb1 HK.out.lt)
 have HR1 : Hid (BkS w1 (w.heap.size + 1) sc0) := Lib.hid (HR.out.after hb1 HR.out.all.2.2.2.2)
 clear hb1 c0 c1 c2 c3 c4 c5 c6 c7 c8 lk HJ
 cases hjo : scJoin (enL xs) (Vm.vw ⟨nm, fr, wt, o0, o1, ⟨hA1, hn1, hc1, hxs⟩, ⟨pA, pn, pc, pxs⟩, gr, ⟨aA, an, ac, axs⟩⟩) with
 | none =>
   rw [hjo] at hj
   have he : e = .returned (.tuple #[.slice none 0 0, .bool false]) := hj
   subst he
   have HF := Lib.hid (Hbad.out (by unfold viewO scView; rw [hjo]) w1 HB1.out)
   obtain ⟨r0, r1, r2, r3, rl⟩ := HR1.out.all
   obtain ⟨f0, f1, f2, f3⟩ := HR1.out.thaw
   clear hj hjo
   go_wp2
   change bodyPost _ _ _ _ _ (putL w1 (w.heap.size + 1) 0 sc0.cl)
   exact ret_sc2 (b := w.heap.size + 1) (x := sc0) (z := .int .i64 94) Tryz.results40 rfl rfl (Bk.put HR1.out sc0.cl rfl) rfl HF.out
 | some fks =>
   rw [hjo] at hj
   obtain ⟨F, he, hFi, hFe⟩ : ∃ x : Sx Int, e = .returned (.tuple #[.slice x.A x.n x.c, .bool true]) ∧ x.In w1 1 rdI ∧ x.xs = fks := hj
   subst he
   subst hFe
   have HF := Lib.hid hFi
   have Hjo := Lib.hid hjo
   clear hFi hjo
   obtain ⟨Q, hQ⟩ : ∃ Q, scAsk typeR (Vm.vw ⟨nm, fr, wt, o0, o1, ⟨hA1, hn1, hc1, hxs⟩, ⟨pA, pn, pc, pxs⟩, gr, ⟨aA, an, ac, axs⟩⟩) F.xs = Q := ⟨_, rfl⟩
   have HQ := Lib.hid hQ
   clear hQ
   go_upto_region 2 with fail
   go_cut [41] (fun s wx => s = .bool Q ∧ Hid (Below w1.heap.size w1 wx))
   case first =>
    obtain ⟨k5, k7, k8⟩ : w1.cell? ⟨w.heap.size, 5, none⟩ = some (.slice hA1 hn1 hc1) ∧ w1.cell? ⟨w.heap.size, 7, none⟩ = some (.bool gr) ∧ w1.cell? ⟨w.heap.size, 8, none⟩ = some (.slice aA an ac) := ⟨HK1.out.cell 5, HK1.out.cell 7, HK1.out.cell 8⟩
    have lk := HK1.out.lt
    have Hae : Hid (axs.isEmpty = decide (an = 0)) := Lib.hid (by
     have h := HV.out.aggs.len
     simp only at h
     rw [← h]
     cases axs <;> simp)
    have Hwe : Hid (hxs.isEmpty = decide (hn1 = 0)) := Lib.hid (by
     have h := HV.out.whr.len
     simp only at h
     rw [← h]
     cases hxs <;> simp)
    have HQ1 : Hid (((!hxs.isEmpty && !truthE typeR hxs F.xs) || (!axs.isEmpty && !gr)) = Q) := HQ
    by_cases h1 : hn1 = 0
    · have HQ2 : Hid ((!axs.isEmpty && !gr) = Q) := Lib.hid (by rw [← HQ1.out, Hwe.out, decide_eq_true h1]; rfl)
      have HBx : Hid (Below w1.heap.size w1 w1) := Lib.hid (Below.refl _ _)
      subst h1
      by_cases h2 : an = 0
      · have hq : false = Q := by rw [← HQ2.out, Hae.out, decide_eq_true h2]; rfl
        subst hq
        subst h2
        go_wp2
        go_meet
        exact ⟨rfl, HBx⟩
      · have h2' : (an : Int) > 0 := by omega
        have hq : (!gr) = Q := by rw [← HQ2.out, Hae.out, decide_eq_false h2]; rfl
        cases gr
        · obtain rfl : true = Q := hq
          go_wp2
          go_meet
          exact ⟨rfl, HBx⟩
        · obtain rfl : false = Q := hq
          go_wp2
          go_meet
          exact ⟨rfl, HBx⟩
    · have h1' : (hn1 : Int) > 0 := by omega
      have HT := Lib.hid (truth9_c ⟨hA1, hn1, hc1, hxs⟩ F.A F.n F.c F.xs w1 (HV.out.whr.after (below_via HB0.out HB1.out)) HAs.out.tx HF.out.len HF.out.sl)
      have HQ3 : Hid (((!trB F.xs hxs) || (!axs.isEmpty && !gr)) = Q) := Lib.hid (by rw [← HQ1.out, Hwe.out, decide_eq_false h1, truth_tr]; rfl)
      obtain ⟨T, hT⟩ : ∃ T, trB F.xs hxs = T := ⟨_, rfl⟩
      have hT2 : (decide ((typeR hxs F.xs).2 = 0) && (decide ((typeR hxs F.xs).1 = 1) || decide ((typeR hxs F.xs).1 = 0))) = T := hT
      simp only [hT2] at HT
      rw [hT] at HQ3
      clear hT hT2 h1 HQ1
      go_wp2_with fail
      refine HT.out.mono ?_
      rintro e w2 ⟨rfl, hb2⟩
      have HBx := Lib.hid hb2
      have k7' : w2.cell? ⟨w.heap.size, 7, none⟩ = some (.bool gr) := (HK1.out.after hb2 lk).cell 7
      have k8' : w2.cell? ⟨w.heap.size, 8, none⟩ = some (.slice aA an ac) := (HK1.out.after hb2 lk).cell 8
      have lk2 := (HK1.out.after hb2 lk).lt
      clear hb2 HT k5 k7 k8 lk
      cases T
      · obtain rfl : true = Q := by rw [← HQ3.out]; rfl
        go_wp2
        go_meet
        exact ⟨rfl, HBx⟩
      · have HQ2 : Hid ((!axs.isEmpty && !gr) = Q) := Lib.hid (by rw [← HQ3.out]; rfl)
        by_cases h2 : an = 0
        · have hq : false = Q := by rw [← HQ2.out, Hae.out, decide_eq_true h2]; rfl
          subst hq
          subst h2
          go_wp2
          go_meet
          exact ⟨rfl, HBx⟩
        · have h2' : (an : Int) > 0 := by omega
          have hq : (!gr) = Q := by rw [← HQ2.out, Hae.out, decide_eq_false h2]; rfl
          cases gr
          · obtain rfl : true = Q := hq
            go_wp2
            go_meet
            exact ⟨rfl, HBx⟩
          · obtain rfl : false = Q := hq
            go_wp2
            go_meet
            exact ⟨rfl, HBx⟩
   case rest =>
    obtain ⟨hs, hbx⟩ := hcut
    subst hs
    have HBx := Lib.hid (below_via HB1.out hbx.out)
    have HRx : Hid (BkS wc (w.heap.size + 1) sc0) := Lib.hid (HR1.out.after hbx.out HR1.out.all.2.2.2.2)
    have HKx : Hid (Bk wc w.heap.size #[.string nm, .string fr, .string wt, .int .i64 o0, .int .i64 o1, .slice hA1 hn1 hc1, .slice pA pn pc, .bool gr, .slice aA an ac] 36) := Lib.hid (HK1.out.after hbx.out HK1.out.lt)
    have HFx := Lib.hid (HF.out.after hbx.out)
    cases Q
    case true =>
     have HE := Lib.hid (Hbad.out (by unfold viewO scView; rw [Hjo.out]; simp only [HQ.out]; rfl) wc HBx.out)
     obtain ⟨r0, r1, r2, r3, rl⟩ := HRx.out.all
     obtain ⟨f0, f1, f2, f3⟩ := HRx.out.thaw
     clear hbx
     go_wp2
     change bodyPost _ _ _ _ _ (putL wc (w.heap.size + 1) 0 sc0.cl)
     exact ret_sc2 (b := w.heap.size + 1) (x := sc0) (z := .int .i64 94) Tryz.results40 rfl rfl (Bk.put HRx.out sc0.cl rfl) rfl HE.out
    case false =>
     obtain ⟨KS, hKS⟩ : ∃ KS, scRes (Vm.vw ⟨nm, fr, wt, o0, o1, ⟨hA1, hn1, hc1, hxs⟩, ⟨pA, pn, pc, pxs⟩, gr, ⟨aA, an, ac, axs⟩⟩) F.xs = KS := ⟨_, rfl⟩
     have HO : Hid (viewO (enL xs) (Vm.vw ⟨nm, fr, wt, o0, o1, ⟨hA1, hn1, hc1, hxs⟩, ⟨pA, pn, pc, pxs⟩, gr, ⟨aA, an, ac, axs⟩⟩) = if scKs KS then .inl 94 else .inr ⟨nm, false, KS, List.replicate KS.length true⟩) := Lib.hid (by
      unfold viewO scView
      rw [Hjo.out]
      simp only [HQ.out, hKS]
      cases scKs KS <;> rfl)
     have HC := Lib.hid (fun u (hu : Below wc.heap.size wc u) => results9_c ⟨nm, fr, wt, o0, o1, ⟨hA1, hn1, hc1, hxs⟩, ⟨pA, pn, pc, pxs⟩, gr, ⟨aA, an, ac, axs⟩⟩ F.A F.n F.c F.xs u (HV.out.after (below_via HB0.out (below_via HBx.out hu))) HAs.out.p HAs.out.a HFx.out.len HFx.out.max (HFx.out.sl.after hu))
     rw [hKS] at HC
     obtain ⟨c0, c1, c2, c3, c4, c5, c6, c7, c8⟩ : wc.cell? ⟨w.heap.size, 0, none⟩ = some (.string nm) ∧ wc.cell? ⟨w.heap.size, 1, none⟩ = some (.string fr) ∧ wc.cell? ⟨w.heap.size, 2, none⟩ = some (.string wt) ∧ wc.cell? ⟨w.heap.size, 3, none⟩ = some (.int .i64 o0) ∧ wc.cell? ⟨w.heap.size, 4, none⟩ = some (.int .i64 o1) ∧ wc.cell? ⟨w.heap.size, 5, none⟩ = some (.slice hA1 hn1 hc1) ∧ wc.cell? ⟨w.heap.size, 6, none⟩ = some (.slice pA pn pc) ∧ wc.cell? ⟨w.heap.size, 7, none⟩ = some (.bool gr) ∧ wc.cell? ⟨w.heap.size, 8, none⟩ = some (.slice aA an ac) := ⟨HKx.out.cell 0, HKx.out.cell 1, HKx.out.cell 2, HKx.out.cell 3, HKx.out.cell 4, HKx.out.cell 5, HKx.out.cell 6, HKx.out.cell 7, HKx.out.cell 8⟩
     have lk := HKx.out.lt
     have hlr := HRx.out.all.2.2.2.2
     clear hKS hbx HF
     go_upto_region 4 with fail
     go_cut [8] (fun s wy => Hid (VwJ w (w.heap.size + 1) nm KS s wy))
     case first =>
      have hbA : Below wc.heap.size wc wc.drew := (Below.refl _ _).drew
      have hbB : Below wc.heap.size wc (wc.drew.alloc (.cells #[.string emp, .bool false, .slice none 0 0, .slice none 0 0] 64)) := hbA.alloc (Nat.le_refl _) _
      have HA := Lib.hid (HC.out _ hbA)
      have HB := Lib.hid (HC.out _ hbB)
      have HbA := Lib.hid hbA
      have HbB := Lib.hid hbB
      have HSt : Hid (∀ w', Below wc.heap.size wc w' → (w'.cell? ⟨w.heap.size, 0, none⟩ = some (.string nm) ∧ w'.cell? ⟨w.heap.size, 1, none⟩ = some (.string fr) ∧ w'.cell? ⟨w.heap.size, 2, none⟩ = some (.string wt) ∧ w'.cell? ⟨w.heap.size, 3, none⟩ = some (.int .i64 o0) ∧ w'.cell? ⟨w.heap.size, 4, none⟩ = some (.int .i64 o1) ∧ w'.cell? ⟨w.heap.size, 5, none⟩ = some (.slice hA1 hn1 hc1) ∧ w'.cell? ⟨w.heap.size, 6, none⟩ = some (.slice pA pn pc) ∧ w'.cell? ⟨w.heap.size, 7, none⟩ = some (.bool gr) ∧ w'.cell? ⟨w.heap.size, 8, none⟩ = some (.slice aA an ac))) := Lib.hid fun w' hb => by
       have hk := HKx.out.after hb HKx.out.lt
       exact ⟨hk.cell 0, hk.cell 1, hk.cell 2, hk.cell 3, hk.cell 4, hk.cell 5, hk.cell 6, hk.cell 7, hk.cell 8⟩
      clear hbA hbB
      go_region_held3 (fun w' => w'.cell? ⟨w.heap.size, 0, none⟩ = some (.string nm) ∧ w'.cell? ⟨w.heap.size, 1, none⟩ = some (.string fr) ∧ w'.cell? ⟨w.heap.size, 2, none⟩ = some (.string wt) ∧ w'.cell? ⟨w.heap.size, 3, none⟩ = some (.int .i64 o0) ∧ w'.cell? ⟨w.heap.size, 4, none⟩ = some (.int .i64 o1) ∧ w'.cell? ⟨w.heap.size, 5, none⟩ = some (.slice hA1 hn1 hc1) ∧ w'.cell? ⟨w.heap.size, 6, none⟩ = some (.slice pA pn pc) ∧ w'.cell? ⟨w.heap.size, 7, none⟩ = some (.bool gr) ∧ w'.cell? ⟨w.heap.size, 8, none⟩ = some (.slice aA an ac)) (first | exact HSt.out _ HbS.out | exact HSt.out _ (below_al HbS.out _) | exact HSt.out _ ((((HbS.out.setCell (Nat.le_refl _) _).setCell (Nat.le_refl _) _).setCell (Nat.le_refl _) _).setCell (Nat.le_refl _) _) | go_keep)
       (first
         | (go_at_call 67
            refine HA.out.mono ?_
            rintro e w10 ⟨x, rfl, hxi, hxe, hxl, hxh, hb10⟩
            have Hx := Lib.hid (And.intro hxi (And.intro hxe (And.intro hxl hxh)))
            have HbS := Lib.hid (below_via HbA.out hb10)
            clear hxi hxe hxl hxh hb10)
         | (go_at_call 67
            refine HB.out.mono ?_
            rintro e w10 ⟨x, rfl, hxi, hxe, hxl, hxh, hb10⟩
            have Hx := Lib.hid (And.intro hxi (And.intro hxe (And.intro hxl hxh)))
            have HbS := Lib.hid (below_via HbB.out hb10)
            have hQ : Bk w10 wc.heap.size #[.string emp, .bool false, .slice none 0 0, .slice none 0 0] 64 := (show Bk _ wc.heap.size _ _ from Bk.new wc.drew _ _).after hb10 (by simp)
            have q0 := hQ.cell 0
            have q1 := hQ.cell 1
            have q2 := hQ.cell 2
            have q3 := hQ.cell 3
            have y0 := hQ.thaw 0
            have y1 := hQ.thaw 1
            have y2 := hQ.thaw 2
            have y3 := hQ.thaw 3
            have ql := hQ.lt
            have HQb := Lib.hid hQ
            simp at q0 q1 q2 q3
            clear hQ
            clear hxi hxe hxl hxh hb10))
      · go_wp2
        go_meet
        have hJ : VwJ w (w.heap.size + 1) nm KS (.pointer (some ⟨w10.heap.size, 0, none⟩)) (w10.alloc (.cells #[.string nm, .bool false, .slice x.A x.n x.c, .slice none 0 0] 64)) := ⟨⟨w10.heap.size, x, rfl, Bk.new _ _ _, Hx.out.1.after (below_one _ _), Hx.out.2.1, fun k hk => by have h := Hx.out.2.2.1 k hk; have h2 : wc.drew.heap.size = wc.heap.size := rfl; omega, fun k hk => by have h := Hx.out.2.2.2 k hk; omega, by have := HbS.out.size; omega⟩, below_al (below_via (below_via HB0.out HBx.out) HbS.out) _, (HRx.out.after HbS.out hlr).after (below_one _ _) (Nat.lt_of_lt_of_le hlr HbS.out.size)⟩
        exact Lib.hid hJ
      · go_wp2
        go_meet
        have hbk := Bk.put HQb.out [.string nm, .bool false, .slice x.A x.n x.c, .slice none 0 0] rfl
        have hps : (putL w10 wc.heap.size 0 [.string nm, .bool false, .slice x.A x.n x.c, .slice none 0 0]).heap.size = w10.heap.size := putL_size _ _ _ _
        have hxo : ∀ k, x.A.map (·.block) = some k → wc.heap.size + 1 ≤ k := fun k hk => by have h := Hx.out.2.2.1 k hk; simp at h; omega
        have hbl : Below w.heap.size w (putL w10 wc.heap.size 0 [.string nm, .bool false, .slice x.A x.n x.c, .slice none 0 0]) := below_put (below_via (below_via HB0.out HBx.out) HbS.out) (by omega) [.string nm, .bool false, .slice x.A x.n x.c, .slice none 0 0] 0
        have hbr : BkS (putL w10 wc.heap.size 0 [.string nm, .bool false, .slice x.A x.n x.c, .slice none 0 0]) (w.heap.size + 1) sc0 := (putL_heap [.string nm, .bool false, .slice x.A x.n x.c, .slice none 0 0] w10 wc.heap.size 0 (w.heap.size + 1) (by omega)).trans (HRx.out.after HbS.out hlr)
        have hxin : x.In (putL w10 wc.heap.size 0 [.string nm, .bool false, .slice x.A x.n x.c, .slice none 0 0]) 1 rdI := Hx.out.1.same (Nat.le_of_eq hps.symm) fun k hk => putL_heap [.string nm, .bool false, .slice x.A x.n x.c, .slice none 0 0] w10 wc.heap.size 0 k (by have := hxo k hk; omega)
        have hJ : VwJ w (w.heap.size + 1) nm KS (.pointer (some ⟨wc.heap.size, 0, none⟩)) (putL w10 wc.heap.size 0 [.string nm, .bool false, .slice x.A x.n x.c, .slice none 0 0]) := ⟨⟨wc.heap.size, x, rfl, hbk, hxin, Hx.out.2.1, fun k hk => by have := hxo k hk; omega, fun k hk => by have := hxo k hk; omega, by omega⟩, hbl, hbr⟩
        exact Lib.hid hJ
     case rest =>
      obtain ⟨⟨O, x, hs, hO, hxi, hxe, hxlo, hxne, hRO⟩, hb, hr⟩ := hcut.out
      subst hs
      have o0' : wc.cell? ⟨O, 0, none⟩ = some (.string nm) := hO.cell 0
      have o1' : wc.cell? ⟨O, 1, none⟩ = some (.bool false) := hO.cell 1
      have o2' : wc.cell? ⟨O, 2, none⟩ = some (.slice x.A x.n x.c) := hO.cell 2
      have o3' : wc.cell? ⟨O, 3, none⟩ = some (.slice none 0 0) := hO.cell 3
      have lO := hO.lt
      have hKn : KS.length = x.n := by rw [← hxe, hxi.len]
      have HO' := Lib.hid hO
      have Hxi := Lib.hid hxi
      have Hxe := Lib.hid hxe
      have Hxl := Lib.hid (And.intro hxlo hxne)
      have HKn := Lib.hid hKn
      have hxm := hxi.max
      unfold maxLen at hxm
      clear c0 c1 c2 c3 c4 c5 c6 c7 c8 lk HC hO hxi hxe hxlo hxne hKn hb hr
      by_cases e0 : x.n = 0
      · have hsk : scKs KS = true := by unfold scKs; rw [HKn.out, e0]; rfl
        have e0' : ((x.n : Int) == 0) = true := by simpa using e0
        clear e0
        have HE := Lib.hid (Hbad2.out wc hcut.out.b (by rw [HO.out, hsk]; rfl))
        have HRz := Lib.hid hcut.out.r
        obtain ⟨r0, r1, r2, r3, rl⟩ := HRz.out.all
        obtain ⟨f0, f1, f2, f3⟩ := HRz.out.thaw
        go_wp2
        change bodyPost _ _ _ _ _ (putL wc (w.heap.size + 1) 0 sc0.cl)
        exact ret_sc2 (b := w.heap.size + 1) (x := sc0) (z := .int .i64 94) Tryz.results40 rfl rfl (Bk.put HRz.out sc0.cl rfl) rfl HE.out
      · have e0' : ((x.n : Int) == 0) = false := by simpa using e0
        by_cases e1 : 40 < x.n
        · have hsk : scKs KS = true := by unfold scKs; rw [HKn.out, decide_eq_true e1]; simp
          have e1' : (x.n : Int) > 40 := by omega
          have HE := Lib.hid (Hbad2.out wc hcut.out.b (by rw [HO.out, hsk]; rfl))
          have HRz := Lib.hid hcut.out.r
          obtain ⟨r0, r1, r2, r3, rl⟩ := HRz.out.all
          obtain ⟨f0, f1, f2, f3⟩ := HRz.out.thaw
          go_wp2
          change bodyPost _ _ _ _ _ (putL wc (w.heap.size + 1) 0 sc0.cl)
          exact ret_sc2 (b := w.heap.size + 1) (x := sc0) (z := .int .i64 94) Tryz.results40 rfl rfl (Bk.put HRz.out sc0.cl rfl) rfl HE.out
        · have e1' : ¬ (x.n : Int) > 40 := by omega
          obtain ⟨g, off, hA, hcl⟩ : ∃ g off, x.A = some ⟨g, off, none⟩ ∧ ∀ j, j < x.xs.length → wc.cell? ⟨g, off + j, none⟩ = some (.int .i64 (x.xs.getD j 0)) := by
           rcases Hxi.out.sl with h | ⟨g, off, hA, _, h⟩
           · have := Hxi.out.len; rw [h] at this; simp at this; omega
           · refine ⟨g, off, hA, fun j hj => ?_⟩
             have := h j x.xs[j] (List.getElem?_eq_getElem hj) 0 _ rfl
             rw [List.getD_eq_getElem?_getD, List.getElem?_eq_getElem hj]
             simpa using this
          have hct := Tryz.slices_Contains_int g off x.n x.c x.xs 0 wc (by rw [Hxi.out.len]; exact Nat.le_refl _) hxm hcl
          rw [List.take_of_length_le (by rw [Hxi.out.len]; exact Nat.le_refl _), Hxe.out] at hct
          have HCt := Lib.hid hct
          obtain ⟨C, hC⟩ : ∃ C, KS.contains 0 = C := ⟨_, rfl⟩
          rw [hC] at HCt
          have hsk : Hid (scKs KS = C) := Lib.hid (by unfold scKs; rw [HKn.out, decide_eq_false e0, decide_eq_false e1, hC]; rfl)
          have HA' := Lib.hid hA
          rw [hA] at o2'
          clear hcl hct hC hA
          go_wp2_with fail
          refine HCt.out.mono ?_
          rintro e w2 ⟨rfl, hw2⟩
          replace hw2 := hw2.symm
          subst hw2
          clear HCt
          cases C
          case true =>
           have HE := Lib.hid (Hbad2.out wc hcut.out.b (by rw [HO.out, hsk.out]; rfl))
           have HRz := Lib.hid hcut.out.r
           obtain ⟨r0, r1, r2, r3, rl⟩ := HRz.out.all
           obtain ⟨f0, f1, f2, f3⟩ := HRz.out.thaw
           go_wp2
           change bodyPost _ _ _ _ _ (putL wc (w.heap.size + 1) 0 sc0.cl)
           exact ret_sc2 (b := w.heap.size + 1) (x := sc0) (z := .int .i64 94) Tryz.results40 rfl rfl (Bk.put HRz.out sc0.cl rfl) rfl HE.out
          case false =>
           obtain ⟨w3, hw3⟩ : ∃ w3, wc.alloc (.cells #[.bool true] 4) = w3 := ⟨_, rfl⟩
           have hb3 : Below wc.heap.size wc w3 := by rw [← hw3]; exact below_one _ _
           have hP : Bk w3 wc.heap.size #[.bool true] 4 := by rw [← hw3]; exact Bk.new _ _ _
           have HRp := Lib.hid (rep_c x.n wc.heap.size w3 (hP.cell 0) hP.lt (by omega) (by omega))
           have HB3 := Lib.hid hb3
           have Hw3 := Lib.hid hw3
           have hz3 : Hid (w3.heap.size = wc.heap.size + 1) := Lib.hid (by rw [← hw3]; simp)
           clear hw3 hb3 hP
           go_wp2_with fail
           rw [Hw3.out]
           refine HRp.out.mono ?_
           rintro e w4 ⟨y, rfl, hyi, hye, hyl, hb4⟩
           have hb4' : Below wc.heap.size wc w4 := below_via HB3.out hb4
           have hO4 := HO'.out.after hb4' lO
           obtain ⟨w5, hw5⟩ : ∃ w5, w4.setCell ⟨O, 3, none⟩ (.slice y.A y.n y.c) = w5 := ⟨_, rfl⟩
           have q3 := hO4.cell 3
           have q3f := hO4.thaw 3
           have lO4 := hO4.lt
           simp at q3
           have hs4 := hb4'.size
           have hylo : ∀ k, y.A.map (·.block) = some k → wc.heap.size ≤ k := fun k hk => by have := hyl k hk; have := hz3.out; omega
           have hy5 : y.In w5 1 rdB := by rw [← hw5]; exact hyi.same (by simp [World.setCell]) fun k hk => Below.heap_setCell _ _ _ _ (by have := hylo k hk; show k ≠ O; omega)
           have hx4 := Hxi.out.after hb4'
           have hx5 : x.In w5 1 rdI := by rw [← hw5]; exact hx4.same (by simp [World.setCell]) fun k hk => Below.heap_setCell _ _ _ _ (Hxl.out.2 k hk)
           have hO5 : BkS w5 O ⟨nm, false, x, y⟩ := by rw [← hw5]; exact Bk.set hO4 3 _
           have hR5 : BkS w5 (w.heap.size + 1) sc0 := by
            rw [← hw5]
            exact (Below.heap_setCell _ _ _ _ (show w.heap.size + 1 ≠ O by omega)).trans (hcut.out.r.after hb4' (by omega))
           have hbl5 : Below w.heap.size w w5 := by
            rw [← hw5]
            exact (below_via hcut.out.b hb4').setCell (show w.heap.size ≤ O by omega) _
           obtain ⟨o, ho⟩ : ∃ o : Sc, (⟨nm, false, x, y⟩ : Sc) = o := ⟨_, rfl⟩
           rw [ho] at hO5
           have hoe : o.en = ⟨nm, false, KS, List.replicate KS.length true⟩ := by rw [← ho]; unfold Sc.en; rw [Hxe.out, HKn.out, hye]
           have hps : (putL w5 (w.heap.size + 1) 0 o.cl).heap.size = w5.heap.size := putL_size _ _ _ _
           have hoi : o.In (putL w5 (w.heap.size + 1) 0 o.cl) := by
            rw [← ho] at hps ⊢
            exact ⟨hx5.same (Nat.le_of_eq hps.symm) fun k hk => putL_heap _ w5 _ _ _ (by have := Hxl.out.1 k hk; omega), hy5.same (Nat.le_of_eq hps.symm) fun k hk => putL_heap _ w5 _ _ _ (by have := hylo k hk; omega)⟩
           have hcs : w.heap.size ≤ wc.heap.size := hcut.out.b.size
           have holo : o.ks.Lo w.heap.size ∧ o.ns.Lo w.heap.size := by
            rw [← ho]
            exact ⟨fun k hk => by have := Hxl.out.1 k hk; omega, fun k hk => by have := hylo k hk; omega⟩
           have hF : S (.returned (.tuple #[o.w, .int .i64 0])) (putL w5 (w.heap.size + 1) 0 o.cl) := by
            rw [← HS.out]
            refine ⟨below_put hbl5 (by omega) _ _, ?_⟩
            rw [HO.out, hsk.out]
            exact ⟨o, rfl, hoi, hoe, holo⟩
           have HF2 := Lib.hid hF
           have Hw5 := Lib.hid hw5
           have HO5 := Lib.hid hO5
           have HR5 := Lib.hid hR5
           clear hF holo hw5 hO5 hR5 hoi hps hoe ho hbl5 hx5 hx4 hy5 hylo hyi hye hyl hb4 hb4' hO4 HRp
           go_upto_region 9 with fail
           rw [Hw5.out]
           obtain ⟨r0, r1, r2, r3, rl⟩ := HR5.out.all
           obtain ⟨f0, f1, f2, f3⟩ := HR5.out.thaw
           obtain ⟨p0, p1, p2, p3, pl⟩ := HO5.out.all
           clear q3 q3f lO4 o0' o1' o2' o3' lO
           go_wp2
           change bodyPost _ _ _ _ _ (putL w5 (w.heap.size + 1) 0 o.cl)
           exact ret_sc2 (b := w.heap.size + 1) (x := o) (z := .int .i64 0) Tryz.results40 rfl rfl (Bk.put HR5.out o.cl rfl) rfl HF2.out
end Go.Proofs.YtamekagminbejaaGreatDoor
namespace Go.Proofs.YtamekagminbejaaGreatDoor
open Go
set_option maxRecDepth 100000
def tabD (n : ByteArray) : Df := ⟨0, ⟨n, [⟨ba [107], 2, false, false, emp, 0⟩, ⟨ba [97], 2, true, false, emp, 0⟩], []⟩, vw0⟩
theorem tab_name (n : ByteArray) : nameD (tabD n) = n := rfl
theorem tab_may {n : ByteArray} (h : nameB n.data.toList = true) : MayD (tabD n) := by
 refine .inl ⟨rfl, ?_, rfl⟩
 unfold mayTb tabD
 simp only [h, Bool.true_and]
 kernel_rfl
theorem nameB_len {l : List UInt8} (h : nameB l = true) : l.length ≤ 30 := by
 unfold nameB wordB at h
 simp only [Bool.and_eq_true] at h
 have := h.1
 split at this
 · simp at this
 · simp only [Bool.and_eq_true, decide_eq_true_eq] at this
   omega
theorem tab_len {n : ByteArray} (h : nameB n.data.toList = true) : (printL (toksD (tabD n))).length ≤ 20000 := by
 have h1 := nameB_len h
 have e : printL (toksD (tabD n)) = w_table ++ 32 :: (n.data.toList ++ [32, 40, 32, 107, 32, 105, 110, 116, 32, 44, 32, 97, 32, 105, 110, 116, 32, 110, 117, 108, 108, 32, 41]) := by
  unfold printL toksD tabD
  simp only [if_true]
  rw [List.map_cons, Lib.join_cons]
  unfold tbT
  simp [sepT, clT, txt_tW, txt_tN, txt_tS, Lib.joinTail, kindW, w_table, w_int, w_null, s_lp, s_rp, s_cm]
 rw [e]
 have hw : w_table.length = 5 := rfl
 simp only [List.length_append, List.length_cons, List.length_nil]
 omega
variable {ok : Df → Bool} {ty : List Nd → List Int → Int × Int}
theorem tab_cols (n : ByteArray) : colsBad (tabD n).t = false := by kernel_rfl
theorem tab_wrong {g : List En} {n : ByteArray} (ho : ok (tabD n) = true) (hg : g.length < 20) (hn : findE g n = none) : wrongE ok ty g (tabD n) = 0 := by
 refine plain_wrong ho hg hn rfl (tab_cols n) ?_ rfl
 intro x hx
 simp only [tabD, List.mem_cons, List.not_mem_nil, or_false] at hx
 rcases hx with rfl | rfl <;> kernel_rfl
theorem env_none {c : List Df} {n : ByteArray} (h : ∀ d ∈ c, nameD d ≠ n) : findE (envF [] c) n = none := by
 have := findC_env c n
 rw [show findC c n = -1 from findN_other h] at this
 simpa using this
theorem many_may {ns : List ByteArray} (ho : ∀ n ∈ ns, ok (tabD n) = true) (hd : ns.Nodup) (hl : ns.length ≤ 20) : mayC ok ty (ns.map tabD) = true := by
 refine may_of fun k d hk => ?_
 rw [List.getElem?_map] at hk
 obtain ⟨n, hn, rfl⟩ := Option.map_eq_some_iff.1 hk
 have hlt := (List.getElem?_eq_some_iff.1 hn).1
 refine tab_wrong (ho n (List.mem_of_getElem? hn)) (by rw [envF_len]; simp; omega) (env_none fun d hd' => ?_)
 rw [← List.map_take] at hd'
 obtain ⟨m, hm, rfl⟩ := List.mem_map.1 hd'
 rw [tab_name]
 rintro rfl
 obtain ⟨j, hj, e⟩ := List.mem_take_iff_getElem.1 hm
 have hj2 : j < k := by omega
 have he := (List.getElem?_eq_some_iff.1 hn).2
 exact List.pairwise_iff_getElem.1 hd j k (by omega) hlt hj2 (e.trans he.symm)
theorem many_full {ns : List ByteArray} {n : ByteArray} (ho : ok (tabD n) = true) (hl : ns.length = 20) : wrongE ok ty (envF [] (ns.map tabD)) (tabD n) = 95 := by
 unfold wrongE
 rw [if_neg (by simp [ho]), if_pos (by rw [envF_len]; simp; omega)]
end Go.Proofs.YtamekagminbejaaGreatDoor
namespace Go.Proofs.YtamekagminbejaaGreatDoor
open Go
set_option maxRecDepth 100000
noncomputable def okD (d : Df) : Bool := @decide (MayD d ∧ (printL (toksD d)).length ≤ 20000) (Classical.propDecidable _)
theorem okD_iff {d : Df} : okD d = true ↔ MayD d ∧ (printL (toksD d)).length ≤ 20000 := by unfold okD; exact @decide_eq_true_iff _ (Classical.propDecidable _)
theorem okD_may : ∀ d, okD d = true → MayD d := fun _ h => (okD_iff.1 h).1
theorem okD_prt {d : Df} {t : List UInt8} (h : PrT d t) : decide (t ≠ []) = okD d := by
 unfold okD
 rcases h with ⟨h1, h2, rfl⟩ | ⟨h, rfl⟩
 · have hn : printL (toksD d) ≠ [] := by
    intro e
    rcases h1 with ⟨hk, _⟩ | ⟨hk, _⟩
    all_goals
     unfold printL toksD at e
     simp [hk, Lib.join_cons, txt_tW, w_table, w_view] at e
   rw [decide_eq_true hn]
   symm
   exact @decide_eq_true _ (Classical.propDecidable _) ⟨h1, h2⟩
 · symm
   rw [show decide (([] : List UInt8) ≠ []) = false from rfl]
   exact @decide_eq_false _ (Classical.propDecidable _) h
def tabR (n r : ByteArray) : Df := ⟨0, ⟨n, [⟨ba [107], 2, false, false, emp, 0⟩, ⟨ba [97], 2, true, false, r, 0⟩], []⟩, vw0⟩
def viewF (n f : ByteArray) : Df := ⟨1, tb0, ⟨n, f, emp, 0, 0, [], [1], true, [⟨1, 0⟩]⟩⟩
theorem tab_okD {n : ByteArray} (h : nameB n.data.toList = true) : okD (tabD n) = true := okD_iff.2 ⟨tab_may h, tab_len h⟩
theorem ok_tux : okD (tabR (ba [117]) (ba [120])) = true := okD_iff.2 ⟨.inl ⟨rfl, by kernel_rfl, rfl⟩, of_decide_eq_true (by kernel_rfl)⟩
theorem ok_tuu : okD (tabR (ba [117]) (ba [117])) = true := okD_iff.2 ⟨.inl ⟨rfl, by kernel_rfl, rfl⟩, of_decide_eq_true (by kernel_rfl)⟩
theorem ok_tt : okD (tabR (ba [116]) emp) = true := tab_okD (by kernel_rfl)
theorem ok_vt : okD (viewF (ba [118]) (ba [116])) = true := okD_iff.2 ⟨.inr ⟨rfl, rfl, by kernel_rfl⟩, of_decide_eq_true (by kernel_rfl)⟩
theorem ok_vx : okD (viewF (ba [118]) (ba [120])) = true := okD_iff.2 ⟨.inr ⟨rfl, rfl, by kernel_rfl⟩, of_decide_eq_true (by kernel_rfl)⟩
variable {ty : List Nd → List Int → Int × Int}
def c1F : List Df := [tabR (ba [116]) emp]
def c2F : List Df := [tabR (ba [116]) emp, viewF (ba [118]) (ba [116])]
theorem wr1 : wrongE okD ty [] (tabR (ba [116]) emp) = 0 := by unfold wrongE; rw [ok_tt]; kernel_rfl
theorem wr2 : wrongE okD ty (envF [] c1F) (viewF (ba [118]) (ba [116])) = 0 := by unfold wrongE; rw [ok_vt]; kernel_rfl
theorem wr3 : wrongE okD ty (envF [] c1F) (tabR (ba [116]) emp) = 90 := by unfold wrongE; rw [ok_tt]; kernel_rfl
theorem wr4 : wrongE okD ty (envF [] c1F) (tabR (ba [117]) (ba [120])) = 92 := by unfold wrongE; rw [ok_tux]; kernel_rfl
theorem wr5 : wrongE okD ty (envF [] c1F) (viewF (ba [118]) (ba [120])) = 94 := by unfold wrongE; rw [ok_vx]; kernel_rfl
theorem wr6 : wrongE okD ty (envF [] c1F) (tabR (ba [117]) (ba [117])) = 0 := by unfold wrongE; rw [ok_tuu]; kernel_rfl
theorem wr7 : wrongE okD ty [] (viewF (ba [118]) (ba [116])) = 94 := by unfold wrongE; rw [ok_vt]; kernel_rfl
theorem may1 : mayC okD ty c1F = true := by unfold mayC c1F; rw [mayF, wr1]; rfl
theorem may2 : mayC okD ty c2F = true := by
 unfold mayC c2F; rw [mayF, wr1, mayF]
 have := wr2 (ty := ty)
 unfold c1F at this
 rw [envF, envF] at this
 rw [this]; rfl
theorem may3 : mayC okD ty [viewF (ba [118]) (ba [116])] = false := by unfold mayC; rw [mayF, wr7]; rfl
theorem find2 : findC c2F (ba [118]) = 1 := by kernel_rfl
theorem kinds2 : findE (envF [] c2F) (ba [118]) = some ⟨ba [118], false, [2, 2], [true, true]⟩ := by kernel_rfl
end Go.Proofs.YtamekagminbejaaGreatDoor
namespace Go.Proofs.YtamekagminbejaaGreatDoor
open Go Go.RowKit
set_option maxRecDepth 100000
noncomputable def srcO (g : List En) (d : Df) : Int ⊕ En := if wrongE okD typeR g d = 0 then .inr (enD g d) else .inl (wrongE okD typeR g d)
theorem srcO_bad {g : List En} {d : Df} {n : Int} (h : wrongE okD typeR g d = n) (hn : n ≠ 0) : srcO g d = .inl n := by unfold srcO; rw [h, if_neg hn]
theorem any_named {d : Df} (hm : MayD d) (xs : List Sc) : (xs.any fun x => namedB d x.name) = (findE (enL xs) (nameD d)).isSome := by
 have e : ∀ n, namedB d n = decide (nameD d = n) := fun n => by
  unfold namedB nameD
  rcases hm with ⟨hk, _⟩ | ⟨hk, _⟩
  · rw [if_pos hk, if_pos hk]
  · rw [if_neg (by omega), if_pos hk, if_neg (by omega)]
 rw [findE_sc, Option.isSome_map, List.isSome_find?]
 congr 1
 funext x
 rw [e]
 exact decide_eq_decide.2 eq_comm
theorem tbEn_en {g : List En} {d : Df} (hk : d.k = 0) : tbEn d.t = enD g d := by
 unfold tbEn enD nameD
 rw [(kinds_table (g := g) hk).1, (kinds_table (g := g) hk).2, if_pos hk, decide_eq_true hk]
structure Dm.Ask (d : Dm) : Prop where
 ok : DfOk d.df
 cap : d.t.cols.n ≤ d.t.cols.c
 cm : d.t.cols.c ≤ maxLen
theorem nd_size {x : Nd} (h : NdOk x) : x.v.s.size ≤ maxLen := by
 have := h.2.2
 unfold maxLen
 omega
theorem Dm.Ask.tb {d : Dm} {w : World} (h : d.Ask) (hm : mayTb d.t.tb = true) (hi : d.t.In w) : d.t.Ask := by
 unfold mayTb at hm
 simp only [Bool.and_eq_true, Bool.not_eq_true', List.isEmpty_eq_false_iff, decide_eq_true_eq] at hm
 have hl : d.t.tb.cols.length = d.t.cols.n := hi.cols.len
 have h1 := List.length_pos_iff.2 hm.2.1
 refine ⟨by omega, by omega, h.cap, h.cm, fun e he y hy => nd_size (h.ok.t.chks e.xs (List.mem_map.2 ⟨e, he, rfl⟩) y hy)⟩
theorem Dm.Ask.vw {d : Dm} {w : World} (h : d.Ask) (hm : mayVw d.v.vw = true) (hi : d.v.In w) : d.v.Ask := by
 unfold mayVw at hm
 simp only [Bool.and_eq_true, decide_eq_true_eq] at hm
 have h1 : d.v.vw.pick.length = d.v.pick.n := hi.pick.len
 have h2 : d.v.vw.aggs.length = d.v.aggs.n := hi.aggs.len
 have h3 := hm.2.2.2.2.1
 have h4 := hm.2.2.2.2.2.2.1
 exact ⟨by omega, by omega, fun y hy => nd_size (h.ok.v.whr y hy)⟩
set_option maxHeartbeats 16000000 in
theorem source9_c (d : Dm) (A : Option Addr) (n c : Nat) (xs : List Sc) (w : World) (hL : ScL w A n xs) (hn : n ≤ 20) (hg : ∀ e ∈ enL xs, GoodE e) (hd : d.In w) (hA : d.Ask) (hG : Gw w.heap.size w) :
 Calls Tryz.prog 28 #[.slice A n c, d.w] w (SrcS (srcO (enL xs) d.df) w) := by
 obtain ⟨S, hS⟩ : ∃ S, SrcS (srcO (enL xs) d.df) w = S := ⟨_, rfl⟩
 rw [hS]
 obtain ⟨w0, hw0⟩ : ∃ w0, (w.alloc (.cells d.cl.toArray 38)).alloc (.cells #[.string emp, .bool false, .slice none 0 0, .slice none 0 0] 64) = w0 := ⟨_, rfl⟩
 have hz0 : w0.heap.size = w.heap.size + 1 + 1 := by rw [← hw0]; simp
 have hB0 : Below w.heap.size w w0 := by rw [← hw0]; exact below_two _ _ _
 have hK : BkD w0 w.heap.size d := by rw [← hw0]; exact (Bk.new w _ _).alloc _
 have hR : BkS w0 (w.heap.size + 1) sc0 := by
  have := Bk.new (w.alloc (.cells d.cl.toArray 38)) #[.string emp, .bool false, .slice none 0 0, .slice none 0 0] 64
  rw [hw0] at this
  simpa [BkS, sc0] using this
 have HW0 : Hid ((w.alloc (.cells #[.int .i64 d.k, .string d.t.name, .slice d.t.cols.A d.t.cols.n d.t.cols.c, .slice d.t.chks.A d.t.chks.n d.t.chks.c, .string d.v.name, .string d.v.frm, .string d.v.wth, .int .i64 d.v.on0, .int .i64 d.v.on1, .slice d.v.whr.A d.v.whr.n d.v.whr.c, .slice d.v.pick.A d.v.pick.n d.v.pick.c, .bool d.v.grp, .slice d.v.aggs.A d.v.aggs.n d.v.aggs.c] 38)).alloc (.cells #[.string emp, .bool false, .slice none 0 0, .slice none 0 0] 64) = w0) := hw0
 have Hbad : Hid (∀ n wN, wrongE okD typeR (enL xs) d.df = n → n ≠ 0 → Below w0.heap.size w0 wN → S (.returned (.tuple #[sc0.w, .int .i64 n])) (putL wN (w.heap.size + 1) 0 sc0.cl)) := Lib.hid fun n wN he h0 hb => by
  rw [← hS]
  refine ⟨below_put (below_via hB0 hb) (by omega) _ _, ?_⟩
  rw [srcO_bad he h0]
 have HS := Lib.hid hS
 have HB0 := Lib.hid hB0
 have HK := Lib.hid hK
 have HR := Lib.hid hR
 have Hz0 := Lib.hid hz0
 have HL := Lib.hid (hL.after hB0)
 have Hg := Lib.hid hg
 have HD := Lib.hid (hd.after hB0)
 have HA := Lib.hid hA
 have HM := Lib.hid (dmay_c d w0 ((hG.below hB0).up hB0.size) (hd.after hB0) hA.ok)
 have Hn : Hid ((enL xs).length = n) := Lib.hid (by unfold enL; rw [List.length_map]; exact hL.len)
 obtain ⟨c0, c1, c2, c3, c4, c5, c6, c7, c8, c9, c10, c11, c12, hlt⟩ := hK.all
 clear hS hw0 hB0 hK hR hz0 hL hg hd hA hG
 have hmf : ∀ (fn : Fn) (first cap : Array Value) (w : World), (Instr.makeFunc fn first cap).run Tryz.prog w = .ok (.func fn first cap) w := fun _ _ _ _ => rfl
 go_enter Tryz.func28, Tryz.ntmps28
 go_upto_region 1 with fail
 rw [HW0.out]
 go_wp2_with fail
 refine HM.out.mono ?_
 rintro e w1 ⟨t, rfl, hp, _, hb1⟩
 rw [okD_prt hp]
 have HB1 := Lib.hid hb1
 obtain ⟨Q, hQ⟩ : ∃ Q, okD d.df = Q := ⟨_, rfl⟩
 rw [hQ]
 have HQ := Lib.hid hQ
 clear hp hb1 hQ HM c0 c1 c2 c3 c4 c5 c6 c7 c8 c9 c10 c11 c12 hlt
 cases Q
 case false =>
  have HE := Lib.hid (Hbad.out 1 w1 (by unfold wrongE; rw [HQ.out]; rfl) (by decide) HB1.out)
  have HRz : Hid (BkS w1 (w.heap.size + 1) sc0) := Lib.hid (HR.out.after HB1.out HR.out.all.2.2.2.2)
  obtain ⟨r0, r1, r2, r3, rl⟩ := HRz.out.all
  obtain ⟨f0, f1, f2, f3⟩ := HRz.out.thaw
  go_wp2
  change bodyPost _ _ _ _ _ (putL w1 (w.heap.size + 1) 0 sc0.cl)
  exact ret_sc2 (b := w.heap.size + 1) (x := sc0) (z := .int .i64 1) Tryz.results28 rfl rfl (Bk.put HRz.out sc0.cl rfl) rfl HE.out
 case true =>
  have HMy := Lib.hid (okD_may _ HQ.out)
  by_cases h20 : n = 20
  · have HE := Lib.hid (Hbad.out 95 w1 (by unfold wrongE; rw [HQ.out, if_neg (by simp), if_pos (by rw [Hn.out]; omega)]) (by decide) HB1.out)
    have HRz : Hid (BkS w1 (w.heap.size + 1) sc0) := Lib.hid (HR.out.after HB1.out HR.out.all.2.2.2.2)
    obtain ⟨r0, r1, r2, r3, rl⟩ := HRz.out.all
    obtain ⟨f0, f1, f2, f3⟩ := HRz.out.thaw
    have h20' : ((n : Int) == 20) = true := by subst h20; rfl
    clear h20
    go_wp2
    change bodyPost _ _ _ _ _ (putL w1 (w.heap.size + 1) 0 sc0.cl)
    exact ret_sc2 (b := w.heap.size + 1) (x := sc0) (z := .int .i64 95) Tryz.results28 rfl rfl (Bk.put HRz.out sc0.cl rfl) rfl HE.out
  · have h20' : ((n : Int) == 20) = false := by simp; omega
    have hlt20 : (enL xs).length < 20 := by rw [Hn.out]; omega
    have HI := Lib.hid (hasSc_c 38 (.pointer (some ⟨w.heap.size, 0, none⟩)) (fun x => namedB d.df x.name) A n c xs w1 HL.out.len HL.out.max (HL.out.sl.after HB1.out) (fun _ _ => by kernel_rfl)
     (fun x u _ hu => src1_c d x w.heap.size u (Bk.after (Bk.after HK.out HB1.out HK.out.lt) hu (HK.out.after HB1.out HK.out.lt).lt)))
    rw [any_named HMy.out] at HI
    have Hlt20 := Lib.hid hlt20
    obtain ⟨P, hP⟩ : ∃ P, (findE (enL xs) (nameD d.df)).isSome = P := ⟨_, rfl⟩
    rw [hP] at HI
    have HP := Lib.hid hP
    clear h20 hlt20 hP
    go_wp2_with fail
    refine HI.out.mono ?_
    rintro e w2 ⟨rfl, hb2⟩
    have HB2 := Lib.hid (below_via HB1.out hb2)
    have HKz : Hid (BkD w2 w.heap.size d) := Lib.hid (Bk.after HK.out HB2.out HK.out.lt)
    have HRz : Hid (BkS w2 (w.heap.size + 1) sc0) := Lib.hid (HR.out.after HB2.out HR.out.all.2.2.2.2)
    clear hb2 HI
    cases P
    case true =>
     have HE := Lib.hid (Hbad.out 90 w2 (by unfold wrongE; rw [HQ.out, if_neg (by simp), if_neg (by have := Hlt20.out; omega), if_pos HP.out]) (by decide) HB2.out)
     obtain ⟨r0, r1, r2, r3, rl⟩ := HRz.out.all
     obtain ⟨f0, f1, f2, f3⟩ := HRz.out.thaw
     go_wp2
     change bodyPost _ _ _ _ _ (putL w2 (w.heap.size + 1) 0 sc0.cl)
     exact ret_sc2 (b := w.heap.size + 1) (x := sc0) (z := .int .i64 90) Tryz.results28 rfl rfl (Bk.put HRz.out sc0.cl rfl) rfl HE.out
    case false =>
     have HNo : Hid (findE (enL xs) (nameD d.df) = none) := Lib.hid (by have := HP.out; simpa using this)
     have hFin : ∀ (o : Int ⊕ En) (u : World) (e : Ending) (u' : World), o = srcO (enL xs) d.df → Below w0.heap.size w0 u → SrcS o u e u' → ∃ (x : Sc) (m : Int), e = .returned (.tuple #[x.w, .int .i64 m]) ∧ BkS u' (w.heap.size + 1) sc0 ∧ S (.returned (.tuple #[x.w, .int .i64 m])) (putL u' (w.heap.size + 1) 0 x.cl) := fun o u e u' ho hu hs => by
      obtain ⟨hb, hs⟩ := hs
      have hbu := below_via hu hb
      have hr : BkS u' (w.heap.size + 1) sc0 := HR.out.after hbu HR.out.all.2.2.2.2
      have hpb : ∀ x : Sc, Below w.heap.size w (putL u' (w.heap.size + 1) 0 x.cl) := fun x => below_put (below_via HB0.out hbu) (by omega) _ _
      cases o with
      | inl m =>
        refine ⟨sc0, m, hs, hr, ?_⟩
        rw [← HS.out]
        refine ⟨hpb _, ?_⟩
        rw [← ho]
      | inr g =>
        obtain ⟨x, he, hi, hen, hl1, hl2⟩ := hs
        refine ⟨x, 0, he, hr, ?_⟩
        rw [← HS.out]
        refine ⟨hpb _, ?_⟩
        rw [← ho]
        have hps : (putL u' (w.heap.size + 1) 0 x.cl).heap.size = u'.heap.size := putL_size _ _ _ _
        have hus := hu.size
        have hz := Hz0.out
        exact ⟨x, rfl, ⟨hi.ks.same (Nat.le_of_eq hps.symm) fun k hk => putL_heap _ u' _ _ _ (by have := hl1 k hk; omega), hi.ns.same (Nat.le_of_eq hps.symm) fun k hk => putL_heap _ u' _ _ _ (by have := hl2 k hk; omega)⟩, hen, fun k hk => by have := hl1 k hk; omega, fun k hk => by have := hl2 k hk; omega⟩
     have HFin := Lib.hid hFin
     obtain ⟨c0, c1, c2, c3, c4, c5, c6, c7, c8, c9, c10, c11, c12, hlt⟩ := HKz.out.all
     clear hFin
     by_cases hk : d.k = 0
     · have hk' : (d.k == 0) = true := by simpa using hk
       have hkd : d.df.k = 0 := hk
       have hmt := may_tb HMy.out hkd
       have ht := table9_c d.t A n c xs w2 (HL.out.after HB2.out) (by omega) (HD.out.t.after HB2.out) (HA.out.tb hmt HD.out.t) (fun e he _ => by
        rcases List.mem_append.1 he with he | he
        · exact (Hg.out e he).ne
        · obtain rfl := List.mem_singleton.1 he
          unfold tbEn
          simp only [List.length_map]
          have h := hmt
          unfold mayTb at h
          simp only [Bool.and_eq_true, Bool.not_eq_true', List.isEmpty_eq_false_iff] at h
          exact List.length_pos_iff.2 h.2.1)
       have ho : tabO (enL xs ++ [tbEn d.t.tb]) d.t.tb = srcO (enL xs) d.df := by
        have e1 : tbEn d.t.tb = enD (enL xs) d.df := tbEn_en hkd
        have e2 := src_table (ok := okD) (ty := typeR) Hg.out HMy.out HQ.out Hlt20.out HNo.out hkd
        unfold tabO srcO
        rw [e2, e1]
        rfl
       have HT := Lib.hid ht
       have Ho := Lib.hid ho
       clear hk hkd hmt ht ho
       go_wp2_with fail
       refine HT.out.mono ?_
       intro e w3 hs
       obtain ⟨x, m, rfl, hr, hf⟩ := HFin.out _ w2 e w3 Ho.out HB2.out hs
       have HF := Lib.hid hf
       have HR3 := Lib.hid hr
       obtain ⟨r0, r1, r2, r3, rl⟩ := hr.all
       obtain ⟨f0, f1, f2, f3⟩ := hr.thaw
       clear hs hf hr c0 c1 c2 c3 c4 c5 c6 c7 c8 c9 c10 c11 c12 hlt
       go_wp2
       change bodyPost _ _ _ _ _ (putL w3 (w.heap.size + 1) 0 x.cl)
       exact ret_sc2 (b := w.heap.size + 1) (x := x) (z := .int .i64 m) Tryz.results28 rfl rfl (Bk.put HR3.out x.cl rfl) rfl HF.out
     · have hk' : (d.k == 0) = false := by simpa using hk
       have hkd : d.df.k ≠ 0 := hk
       have hmv := (may_vw HMy.out hkd).2
       have ht := view9_c d.v A n c xs w2 (HL.out.after HB2.out) (HD.out.v.after HB2.out) (HA.out.vw hmv HD.out.v) (fun e he => by have := (Hg.out e he).le; omega)
       have ho : viewO (enL xs) d.v.vw = srcO (enL xs) d.df := by
        have e2 := src_view (ok := okD) (ty := typeR) Hg.out HMy.out HQ.out Hlt20.out HNo.out hkd
        unfold viewO srcO
        rcases e2 with ⟨e2, e3⟩ | ⟨e2, e3⟩
        · rw [e2, show scView typeR (enL xs) d.v.vw = none from e3]; rfl
        · rw [e2, show scView typeR (enL xs) d.v.vw = some _ from e3]; rfl
       have HT := Lib.hid ht
       have Ho := Lib.hid ho
       clear hk hkd hmv ht ho
       go_wp2_with fail
       refine HT.out.mono ?_
       intro e w3 hs
       obtain ⟨x, m, rfl, hr, hf⟩ := HFin.out _ w2 e w3 Ho.out HB2.out hs
       have HF := Lib.hid hf
       have HR3 := Lib.hid hr
       obtain ⟨r0, r1, r2, r3, rl⟩ := hr.all
       obtain ⟨f0, f1, f2, f3⟩ := hr.thaw
       clear hs hf hr c0 c1 c2 c3 c4 c5 c6 c7 c8 c9 c10 c11 c12 hlt
       go_wp2
       change bodyPost _ _ _ _ _ (putL w3 (w.heap.size + 1) 0 x.cl)
       exact ret_sc2 (b := w.heap.size + 1) (x := x) (z := .int .i64 m) Tryz.results28 rfl rfl (Bk.put HR3.out x.cl rfl) rfl HF.out
theorem may_len {c : List Df} (h : mayC okD typeR c = true) : c.length ≤ 20 := by
 cases hc : c.length with
 | zero => omega
 | succ k =>
   have hd : c[k]? = some c[k] := List.getElem?_eq_getElem (by omega)
   have hf := (wrong_fine.1 (may_at h hd)).len
   rw [envF_len] at hf
   simp at hf
   omega
def SrcsS (c : List Df) (w : World) (e : Ending) (w' : World) : Prop := Below w.heap.size w w' ∧
 ((mayC okD typeR c = true ∧ ∃ (A : Option Addr) (n cp : Nat) (ys : List Sc), e = .returned (.tuple #[.slice A n cp, .bool true]) ∧ ScL w' A n ys ∧ enL ys = envF [] c) ∨
  (mayC okD typeR c = false ∧ e = .returned (.tuple #[.slice none 0 0, .bool false])))
def ApS (x : Sc) (g : Nat) : Prop := (x.ks.xs ≠ [] → ∀ k, x.ks.A.map (·.block) = some k → k ≠ g) ∧ (x.ns.xs ≠ [] → ∀ k, x.ns.A.map (·.block) = some k → k ≠ g)
theorem Sx.In.grown {α : Type} {w w' : World} {S : Nat} {rd : α → List Value} {h : Sx α} {row : Option Nat} (hi : h.In w S rd) (hg : w.grownBy w' row) (ha : ∀ g, row = some g → h.xs ≠ [] → ∀ k, h.A.map (·.block) = some k → k ≠ g) : h.In w' S rd := by
 refine ⟨hi.len, hi.max, ?_⟩
 by_cases h0 : h.xs = []
 · exact .inl h0
 rcases hi.sl with h1 | ⟨b, off, hA, hlt, hc⟩
 · exact absurd h1 h0
 · have e := hg.block b hlt (fun e => ha b e.symm h0 b (by rw [hA]; rfl) rfl)
   refine .inr ⟨b, off, hA, Nat.lt_of_lt_of_le hlt hg.size, fun i x hx j u hu => ?_⟩
   rw [← hc i x hx j u hu]
   simp only [World.cell?, e]
theorem Sc.In.grown {w w' : World} {x : Sc} {row : Option Nat} (hi : x.In w) (hg : w.grownBy w' row) (ha : ∀ g, row = some g → ApS x g) : x.In w' :=
 ⟨hi.ks.grown hg fun g e => (ha g e).1, hi.ns.grown hg fun g e => (ha g e).2⟩
theorem Sc.In.fresh {w : World} {x : Sc} (hi : x.In w) {g : Nat} (hg : w.heap.size ≤ g) : ApS x g := by
 constructor
 · intro h0 k hk
   rcases hi.ks.sl with h1 | ⟨b, off, hA, hlt, _⟩
   · exact absurd h1 h0
   · rw [hA] at hk; simp at hk; omega
 · intro h0 k hk
   rcases hi.ns.sl with h1 | ⟨b, off, hA, hlt, _⟩
   · exact absurd h1 h0
   · rw [hA] at hk; simp at hk; omega
structure SrJ (w : World) (c : List Df) (v : Value) (wr : World) : Prop where
 ex : ∃ ys : List Sc, OwnG wr w.heap.size 64 4 rdSc v ys ∧ (∀ x ∈ ys, x.In wr) ∧ enL ys = envF [] c ∧ ∀ g, v.ownBlock = some g → ∀ x ∈ ys, ApS x g
 may : mayC okD typeR c = true
 b : Below w.heap.size w wr
set_option maxHeartbeats 16000000 in
theorem sources9_c (A : Option Addr) (n cp : Nat) (xs : List Dm) (w : World) (hC : CtL w A n xs) (hA : ∀ x ∈ xs, x.Ask) (hG : Gw w.heap.size w) :
 Calls Tryz.prog 22 #[.slice A n cp] w (SrcsS (xs.map (·.df)) w) := by
 obtain ⟨S, hS⟩ : ∃ S, SrcsS (xs.map (·.df)) w = S := ⟨_, rfl⟩
 rw [hS]
 have HS := Lib.hid hS
 have HC := Lib.hid hC
 have HA := Lib.hid hA
 have HG := Lib.hid hG
 have hmx : n ≤ 9223372036854775807 := hC.max
 have HJ0 : Hid (SrJ w [] (.slice none 0 0) w) := Lib.hid ⟨⟨[], OwnG.nil _ _ _, (fun x hx => by cases hx), rfl, (fun g hg => by cases hg)⟩, rfl, Below.refl _ _⟩
 clear hS hC hA hG
 go_enter Tryz.func22, Tryz.ntmps22
 go_wp2_with fail
 go_loopw [4, 11] (fun q i wr => ∃ (k : Nat) (v : Value), k ≤ n ∧ i = .int .i64 (k : Int) ∧ q = v ∧ Hid (SrJ w ((xs.take k).map (·.df)) v wr)) (fun _ i _ => n - (intOf i).toNat)
 case atStart => exact ⟨0, _, Nat.zero_le _, rfl, rfl, HJ0⟩
 case round =>
  obtain ⟨k, q, hk, rfl, hq, hj⟩ := hrel
  replace hq := hq.symm
  subst hq
  clear HJ0
  obtain ⟨⟨ys, hys, hyi, hye, hya⟩, hmay, hb⟩ := hj.out
  by_cases hlt : k < n
  · obtain ⟨b, off, x, rfl, hblt, hx, hc⟩ := HC.out.sl.atS (k := k) (by rw [HC.out.len]; exact hlt)
    have dd : ∀ j u, (rdD x)[j]? = some u → wr.cell? ⟨b, off + k * 13 + j, none⟩ = some u := fun j u hu => (hb.cell (p := ⟨b, off + k * 13 + j, none⟩) hblt).trans (hc j u hu)
    have d0 : wr.cell? ⟨b, off + k * 13, none⟩ = some (.int .i64 x.k) := dd 0 _ rfl
    have d1 := dd 1 _ rfl
    have d2 := dd 2 _ rfl
    have d3 := dd 3 _ rfl
    have d4 := dd 4 _ rfl
    have d5 := dd 5 _ rfl
    have d6 := dd 6 _ rfl
    have d7 := dd 7 _ rfl
    have d8 := dd 8 _ rfl
    have d9 := dd 9 _ rfl
    have d10 := dd 10 _ rfl
    have d11 := dd 11 _ rfl
    have d12 := dd 12 _ rfl
    have l0 : b < wr.heap.size := Nat.lt_of_lt_of_le hblt hb.size
    have hxm := List.mem_of_getElem? hx
    obtain ⟨w1, hw1⟩ : ∃ w1, wr.alloc (.cells x.cl.toArray 38) = w1 := ⟨_, rfl⟩
    have hw1' : Hid (wr.alloc (.cells #[.int .i64 x.k, .string x.t.name, .slice x.t.cols.A x.t.cols.n x.t.cols.c, .slice x.t.chks.A x.t.chks.n x.t.chks.c, .string x.v.name, .string x.v.frm, .string x.v.wth, .int .i64 x.v.on0, .int .i64 x.v.on1, .slice x.v.whr.A x.v.whr.n x.v.whr.c, .slice x.v.pick.A x.v.pick.n x.v.pick.c, .bool x.v.grp, .slice x.v.aggs.A x.v.aggs.n x.v.aggs.c] 38) = w1) := Lib.hid hw1
    have hb1r : Below wr.heap.size wr w1 := by rw [← hw1]; exact below_one _ _
    have hb1 : Below w.heap.size w w1 := below_via hb hb1r
    have hK : BkD w1 wr.heap.size x := by rw [← hw1]; exact Bk.new _ _ _
    obtain ⟨YA, yc, hyv, hyc, hym, hysl⟩ := hys.sl scOk.len
    subst hyv
    have hyl : ys.length ≤ 20 := by
     have h1 := congrArg List.length hye
     rw [envF_len] at h1
     have h2 := may_len hmay
     unfold enL at h1
     rw [List.length_map] at h1
     simp only [List.length_nil, Nat.zero_add] at h1
     omega
    have hgood : ∀ e ∈ enL ys, GoodE e := by rw [hye]; exact env_good okD_may hmay
    have hCall := source9_c x YA ys.length yc ys w1 ⟨rfl, Nat.le_trans hyc hym, hysl.after hb1r, fun y hy => (hyi y hy).after hb1r⟩ hyl hgood ((HC.out.each x hxm).after hb1) (HA.out x hxm) ((HG.out.below hb1).up hb1.size)
    rw [hye] at hCall
    have htk : (xs.take (k + 1)).map (·.df) = (xs.take k).map (·.df) ++ [x.df] := by rw [List.take_add_one, hx, List.map_append]; rfl
    have Htk := Lib.hid htk
    have hdk : (xs.map (·.df))[k]? = some x.df := by rw [List.getElem?_map, hx]; rfl
    have hwr0 : wrongE okD typeR (envF [] ((xs.take k).map (·.df))) x.df ≠ 0 → mayC okD typeR (xs.map (·.df)) = false := fun h0 => by
     cases hm : mayC okD typeR (xs.map (·.df)) with
     | false => rfl
     | true =>
       have := may_at hm hdk
       rw [← List.map_take] at this
       exact absurd this h0
    have Hwr0 := Lib.hid hwr0
    have HCall := Lib.hid hCall
    have HK := Lib.hid hK
    have Hb1 := Lib.hid hb1
    have Hb1r := Lib.hid hb1r
    have Hys := Lib.hid hys
    have Hyi := Lib.hid hyi
    have Hye := Lib.hid hye
    have Hmay := Lib.hid hmay
    have Hya := Lib.hid hya
    have Hyl := Lib.hid hyl
    obtain ⟨L, hL⟩ : ∃ L, ys.length = L := ⟨_, rfl⟩
    rw [hL] at HCall Hyl
    have HLe := Lib.hid hL
    rw [hL]
    have hgo : (k : Int) < n := by omega
    have hs1 := hb1.size
    clear hw1 hb1 hb1r hK hys hyi hye hya hyc hym hysl hgood hCall htk hdk hwr0 hx hxm hc hmay hyl hj hb hL
    go_upto_region 5 with fail
    rw [hw1'.out]
    obtain ⟨e0, e1, e2, e3, e4, e5, e6, e7, e8, e9, e10, e11, e12, el⟩ := HK.out.all
    clear d0 d1 d2 d3 d4 d5 d6 d7 d8 d9 d10 d11 d12 dd l0
    go_wp2_with fail
    refine HCall.out.mono ?_
    intro e w2 hs
    obtain ⟨hb2, hs⟩ := hs
    have Hb2 := Lib.hid (below_via Hb1.out hb2)
    have Hb2r := Lib.hid (below_via Hb1r.out hb2)
    clear HCall e0 e1 e2 e3 e4 e5 e6 e7 e8 e9 e10 e11 e12 el
    obtain ⟨W, hW⟩ : ∃ W, wrongE okD typeR (envF [] ((xs.take k).map (·.df))) x.df = W := ⟨_, rfl⟩
    by_cases h0 : W = 0
    · have ho : srcO (envF [] ((xs.take k).map (·.df))) x.df = .inr (enD (envF [] ((xs.take k).map (·.df))) x.df) := by unfold srcO; rw [hW, if_pos h0]
      rw [ho] at hs
      obtain ⟨y, rfl, hyi2, hye2, hyl1, hyl2⟩ := hs
      have Hyap : Hid (∀ g, (Value.slice YA L yc).ownBlock = some g → ApS y g) := Lib.hid fun g hg => by
       have hlt' := (Hys.out.lt g (by rw [HLe.out]; exact hg)).2
       have hh := Hb1r.out.size
       exact ⟨fun _ k hk => by have := hyl1 k hk; omega, fun _ k hk => by have := hyl2 k hk; omega⟩
      obtain ⟨w3, hw3⟩ : ∃ w3, w2.alloc (.cells #[.string y.name, .bool y.tb, .slice y.ks.A y.ks.n y.ks.c, .slice y.ns.A y.ns.n y.ns.c] 64) = w3 := ⟨_, rfl⟩
      have hb3 : Below w2.heap.size w2 w3 := by rw [← hw3]; exact below_one _ _
      have hY : BkS w3 w2.heap.size y := by rw [← hw3]; exact Bk.new _ _ _
      have hb3r : Below wr.heap.size wr w3 := below_via Hb2r.out hb3
      have hb3w : Below w.heap.size w w3 := below_via Hb2.out hb3
      have ho3 : OwnG w3 w.heap.size 64 4 rdSc (.slice YA L yc) ys := by have := Hys.out.after hb3r; rw [HLe.out] at this; exact this
      have hs3 := hb3w.size
      have HY := Lib.hid hY
      have Ho3 := Lib.hid ho3
      have Hb3r := Lib.hid hb3r
      have Hb3w := Lib.hid hb3w
      have Hyi3 := Lib.hid (hyi2.after hb3)
      have Hw3 := Lib.hid hw3
      have hmn : mayC okD typeR ((xs.take (k + 1)).map (·.df)) = true := by
       rw [Htk.out, may_add, Hmay.out, hW, h0]; rfl
      have Hmn := Lib.hid hmn
      have henv : enL (ys ++ [y]) = envF [] ((xs.take (k + 1)).map (·.df)) := by
       rw [Htk.out, env_add]
       unfold enL
       rw [List.map_append, show ys.map Sc.en = enL ys from rfl, Hye.out]
       rw [← hye2]; rfl
      have Henv := Lib.hid henv
      clear hmn henv hw3 hb3 hY hb3r hb3w ho3 hb2 hyi2 hye2 hyl1 hyl2 ho hW h0
      go_upto_region 6 with fail
      rw [Hw3.out]
      obtain ⟨p0, p1, p2, p3, pl⟩ := HY.out.all
      go_wp2_with (at_builtin; go_must (refine wpList_appL scOk rfl (.tmp 23) (.tmp 25) rfl w.heap.size _ ys [y] (some ⟨w3.heap.size, 0, none⟩) 1 1 rfl (Ho3.out.alloc _) rfl rfl (SlG.new scOk.len [y] rfl) (by have e1 := HLe.out; have e2 := Hyl.out; simp [maxLen]; omega) (by have e1 := HLe.out; have e2 := Hyl.out; simp; omega) (by simp; omega) ?_; intro v1 w4 hv1 hg1 hl1; have HV1 := Lib.hid hv1; have HG1 := Lib.hid hg1; have HL1 := Lib.hid hl1; clear hv1 hg1 hl1))
      have hba : Below w3.heap.size w3 (w3.alloc (.cells #[.string y.name, .bool y.tb, .slice y.ks.A y.ks.n y.ks.c, .slice y.ns.A y.ns.n y.ns.c] 64)) := below_one _ _
      have hb4 : Below w.heap.size w w4 := (below_via Hb3w.out hba).grown HG1.out (by have := hba.size; omega) (fun j hj => (Ho3.out.lt j hj).1)
      have hin3 : ∀ x ∈ ys ++ [y], x.In (w3.alloc (.cells #[.string y.name, .bool y.tb, .slice y.ks.A y.ks.n y.ks.c, .slice y.ns.A y.ns.n y.ns.c] 64)) ∧ ∀ g, (Value.slice YA L yc).ownBlock = some g → ApS x g := fun x hx => by
       rcases List.mem_append.1 hx with hx | hx
       · exact ⟨((Hyi.out x hx).after Hb3r.out).after hba, fun g hg => Hya.out g (by rw [HLe.out]; exact hg) x hx⟩
       · obtain rfl := List.mem_singleton.1 hx
         exact ⟨Hyi3.out.after hba, Hyap.out⟩
      have hin4 : ∀ x ∈ ys ++ [y], x.In w4 := fun x hx => (hin3 x hx).1.grown HG1.out (hin3 x hx).2
      have hap4 : ∀ g, v1.ownBlock = some g → ∀ x ∈ ys ++ [y], ApS x g := fun g hg x hx => by
       rcases HL1.out with h | h
       · exact (hin3 x hx).2 g (h.symm.trans hg)
       · rw [h] at hg
         injection hg with hg
         exact (hin3 x hx).1.fresh (by omega)
      have HJ : Hid (SrJ w ((xs.take (k + 1)).map (·.df)) v1 w4) := Lib.hid ⟨⟨ys ++ [y], HV1.out, hin4, Henv.out, hap4⟩, Hmn.out, hb4⟩
      clear hba hb4 hin3 hin4 hap4
      go_roundw
      case rel => exact ⟨k + 1, _, by omega, by go_num, rfl, HJ⟩
      case measure => simp [intOf]; omega
    · have ho : srcO (envF [] ((xs.take k).map (·.df))) x.df = .inl W := srcO_bad hW h0
      rw [ho] at hs
      have hs : e = .returned (.tuple #[sc0.w, .int .i64 W]) := hs
      subst hs
      have HF : Hid (S (.returned (.tuple #[.slice none 0 0, .bool false])) (w2.alloc (.cells #[.string emp, .bool false, .slice none 0 0, .slice none 0 0] 64))) := Lib.hid (by
       rw [← HS.out]
       exact ⟨below_al Hb2.out _, .inr ⟨Hwr0.out (by rw [hW]; exact h0), rfl⟩⟩)
      have h0' : (W != 0) = true := by simpa using h0
      clear ho hW h0 hb2
      go_wp2
      exact HF.out
  · obtain rfl : k = n := by omega
    rw [List.take_of_length_le (by rw [HC.out.len]; exact Nat.le_refl _)] at hye hmay
    obtain ⟨YA, yc, hyv, hyc, hym, hysl⟩ := hys.sl scOk.len
    subst hyv
    have HF : Hid (S (.returned (.tuple #[.slice YA ys.length yc, .bool true])) wr) := Lib.hid (by
     rw [← HS.out]
     exact ⟨hb, .inl ⟨hmay, YA, ys.length, yc, ys, rfl, ⟨rfl, Nat.le_trans hyc hym, hysl, hyi⟩, hye⟩⟩)
    clear hj hys hyi hye hya hmay hb hyc hym hysl
    go_wp2
    exact HF.out
set_option maxHeartbeats 2000000 in
theorem smay_c (A : Option Addr) (n cp : Nat) (xs : List Dm) (w : World) (hC : CtL w A n xs) (hA : ∀ x ∈ xs, x.Ask) (hG : Gw w.heap.size w) :
 Calls Tryz.prog 10 #[.slice A n cp] w fun e w' => e = .returned (.bool (mayC okD typeR (xs.map (·.df)))) ∧ Below w.heap.size w w' := by
 have HC := Lib.hid (sources9_c A n cp xs w hC hA hG)
 obtain ⟨Q, hQ⟩ : ∃ Q, mayC okD typeR (xs.map (·.df)) = Q := ⟨_, rfl⟩
 unfold SrcsS at HC
 rw [hQ] at HC ⊢
 clear hC hA hG hQ
 go_enter Tryz.func10, Tryz.ntmps10
 go_wp2_with fail
 refine HC.out.mono ?_
 rintro e w1 ⟨hb, h⟩
 rcases h with ⟨hq, B, m, c, ys, rfl, _, _⟩ | ⟨hq, rfl⟩
 · subst hq
   go_wp2
   go_ret
   exact ⟨rfl, hb⟩
 · subst hq
   go_wp2
   go_ret
   exact ⟨rfl, hb⟩
set_option maxHeartbeats 2000000 in
theorem sfind_c (A : Option Addr) (n cp : Nat) (xs : List Dm) (nm : ByteArray) (w : World) (hn : xs.length = n) (hm : n ≤ maxLen) (hs : SlG w A 13 rdD xs) :
 Calls Tryz.prog 11 #[.slice A n cp, .string nm] w fun e w' => e = .returned (.int .i64 (idxL (fun x : Dm => namedB x.df nm) xs 0)) ∧ Below w.heap.size w w' := by
 obtain ⟨w0, hw0⟩ : ∃ w0, w.alloc (.cells #[.string nm] 9) = w0 := ⟨_, rfl⟩
 have hB0 : Below w.heap.size w w0 := by rw [← hw0]; exact below_one _ _
 have hN : Bk w0 w.heap.size #[.string nm] 9 := by rw [← hw0]; exact Bk.new w _ _
 have HI := Lib.hid (idxDf_c 24 (.pointer (some ⟨w.heap.size, 0, none⟩)) (fun x => namedB x.df nm) A n cp xs w0 hn hm (hs.after hB0) (fun _ _ => by kernel_rfl)
  (fun x u _ hu => fnd1_c x nm w.heap.size u ((hN.after hu hN.lt).cell 0) (hN.after hu hN.lt).lt))
 have HB0 := Lib.hid hB0
 have HW0 := Lib.hid hw0
 obtain ⟨Q, hQ⟩ : ∃ Q, idxL (fun x : Dm => namedB x.df nm) xs 0 = Q := ⟨_, rfl⟩
 rw [hQ] at HI ⊢
 clear hw0 hB0 hN hs hn hm hQ
 have hmf : ∀ (fn : Fn) (first cap : Array Value) (w : World), (Instr.makeFunc fn first cap).run Tryz.prog w = .ok (.func fn first cap) w := fun _ _ _ _ => rfl
 go_enter Tryz.func11, Tryz.ntmps11
 go_upto_region 1 with fail
 rw [HW0.out]
 go_wp2_with fail
 refine HI.out.mono ?_
 rintro e w1 ⟨rfl, hb1⟩
 have HB1 := Lib.hid (below_via HB0.out hb1)
 clear hb1
 go_wp2
 go_ret
 exact ⟨rfl, HB1.out⟩
theorem idx_find {ds : List Dm} (hm : ∀ d ∈ ds, MayD d.df) (nm : ByteArray) : ∀ k, idxL (fun x : Dm => namedB x.df nm) ds k = findN nm (ds.map (·.df)) k := by
 induction ds with
 | nil => intro k; rfl
 | cons d r ih =>
   intro k
   rw [idxL, List.map_cons, findN_cons, ih (fun x hx => hm x (List.mem_cons_of_mem _ hx))]
   have e : namedB d.df nm = decide (nameD d.df = nm) := by
    unfold namedB nameD
    rcases hm d List.mem_cons_self with ⟨hk, _⟩ | ⟨hk, _⟩
    · rw [if_pos hk, if_pos hk]
    · rw [if_neg (by omega), if_pos hk, if_neg (by omega)]
   rw [e]
   by_cases h : nameD d.df = nm
   · rw [decide_eq_true h, if_pos rfl, if_pos h]
   · rw [decide_eq_false h, if_neg Bool.false_ne_true, if_neg h]
def KindsS (c : List Df) (nm : ByteArray) (w : World) (e : Ending) (w' : World) : Prop := Below w.heap.size w w' ∧
 ∃ (X : Sx Int) (Y : Sx Bool) (ok : Bool), e = .returned (.tuple #[.slice X.A X.n X.c, .slice Y.A Y.n Y.c, .bool ok]) ∧ X.In w' 1 rdI ∧ Y.In w' 1 rdB ∧
  ((ok = true ∧ mayC okD typeR c = true ∧ ∃ q, findE (envF [] c) nm = some q ∧ X.xs = q.ks ∧ Y.xs = q.ns) ∨ (ok = false ∧ X.xs = [] ∧ Y.xs = [] ∧ (mayC okD typeR c = false ∨ findE (envF [] c) nm = none)))
set_option maxHeartbeats 4000000 in
theorem skinds_c (A : Option Addr) (n cp : Nat) (xs : List Dm) (nm : ByteArray) (w : World) (hC : CtL w A n xs) (hA : ∀ x ∈ xs, x.Ask) (hG : Gw w.heap.size w) :
 Calls Tryz.prog 12 #[.slice A n cp, .string nm] w (KindsS (xs.map (·.df)) nm w) := by
 have HC := Lib.hid (sources9_c A n cp xs w hC hA hG)
 obtain ⟨S, hS⟩ : ∃ S, KindsS (xs.map (·.df)) nm w = S := ⟨_, rfl⟩
 rw [hS]
 have HS := Lib.hid hS
 clear hC hA hG hS
 go_enter Tryz.func12, Tryz.ntmps12
 go_wp2_with fail
 refine HC.out.mono ?_
 intro e w1 h
 obtain ⟨B, m, c, ys, ok0, he, hL, hcase⟩ : ∃ (B : Option Addr) (m c : Nat) (ys : List Sc) (ok0 : Bool), e = .returned (.tuple #[.slice B m c, .bool ok0]) ∧ ScL w1 B m ys ∧ ((mayC okD typeR (xs.map (·.df)) = true ∧ enL ys = envF [] (xs.map (·.df))) ∨ (mayC okD typeR (xs.map (·.df)) = false ∧ ys = [])) := by
  rcases h.2 with ⟨hq, B, m, c, ys, he, hL, hy⟩ | ⟨hq, he⟩
  · exact ⟨B, m, c, ys, true, he, hL, .inl ⟨hq, hy⟩⟩
  · exact ⟨none, 0, 0, [], false, he, ⟨rfl, Nat.zero_le _, .inl rfl, fun x hx => by cases hx⟩, .inr ⟨hq, rfl⟩⟩
 subst he
 have HF := Lib.hid (find9_c B m c ys nm w1 hL)
 have Hb := Lib.hid h.1
 have Hc := Lib.hid hcase
 clear h hL hcase HC
 go_wp2_with fail
 refine HF.out.mono ?_
 rintro e w2 ⟨s, ok, rfl, hsi, hs, hb2⟩
 obtain ⟨w3, hw3⟩ : ∃ w3, w2.alloc (.cells #[.string s.name, .bool s.tb, .slice s.ks.A s.ks.n s.ks.c, .slice s.ns.A s.ns.n s.ns.c] 64) = w3 := ⟨_, rfl⟩
 have hb3 : Below w2.heap.size w2 w3 := by rw [← hw3]; exact below_one _ _
 have hK : BkS w3 w2.heap.size s := by rw [← hw3]; exact Bk.new _ _ _
 have hF : S (.returned (.tuple #[.slice s.ks.A s.ks.n s.ks.c, .slice s.ns.A s.ns.n s.ns.c, .bool ok])) w3.drew := by
  rw [← HS.out]
  have hi := (hsi.after hb3).after (Below.refl w3.heap.size w3).drew
  refine ⟨(below_via (below_via Hb.out hb2) hb3).drew, s.ks, s.ns, ok, rfl, hi.ks, hi.ns, ?_⟩
  rcases hs with ⟨h1, h2, h3⟩ | ⟨h1, h3⟩
  · right
    refine ⟨h1, by rw [h2]; rfl, by rw [h2]; rfl, ?_⟩
    rcases Hc.out with ⟨q1, q2⟩ | ⟨q1, q2⟩
    · right; rw [← q2]; exact h3
    · left; exact q1
  · left
    rcases Hc.out with ⟨q1, q2⟩ | ⟨q1, q2⟩
    · exact ⟨h1, q1, s.en, by rw [← q2]; exact h3, rfl, rfl⟩
    · rw [q2] at h3; cases h3
 have HF3 := Lib.hid hF
 have Hw3 := Lib.hid hw3
 obtain ⟨c0, c1, c2, c3, cl⟩ := hK.all
 clear hF hw3 hb3 hK hsi hs hb2 HF
 go_upto_region 3 with fail
 rw [Hw3.out]
 go_region
 go_wp2
 first | exact HF3.out | (go_ret3; exact HF3.out)
theorem clOk9 : ElOk Tryz.prog 26 41 6 56 (Cl.w ⟨emp, 0, false, false, emp, 0⟩) rdCl where
 under := Tryz.underlying26
 info := by kernel_rfl
 zs := rfl
 pos := by decide
 len := fun _ => rfl
 one := fun x u hu => by
  simp [rdCl] at hu
  rcases hu with rfl | rfl | rfl | rfl | rfl | rfl <;> rfl
theorem exOk9 : ElOk Tryz.prog 27 32 1 24 (.slice none 0 0) rdX where
 under := Tryz.underlying27
 info := by kernel_rfl
 zs := rfl
 pos := by decide
 len := fun _ => rfl
 one := fun x u hu => by
  simp [rdX] at hu
  rcases hu with rfl; rfl
theorem ndOk9 : ElOk Tryz.prog 32 83 5 48 (Nd.w ⟨0, 0, ⟨0, 0, emp⟩⟩) rdN where
 under := Tryz.underlying32
 info := by kernel_rfl
 zs := rfl
 pos := by decide
 len := fun _ => rfl
 one := fun x u hu => by
  simp [rdN] at hu
  rcases hu with rfl | rfl | rfl | rfl | rfl <;> rfl
theorem agOk9 : ElOk Tryz.prog 34 73 2 16 (Ag.w ⟨0, 0⟩) rdAg where
 under := Tryz.underlying34
 info := by kernel_rfl
 zs := rfl
 pos := by decide
 len := fun _ => rfl
 one := fun x u hu => by
  simp [rdAg] at hu
  rcases hu with rfl | rfl <;> rfl
set_option maxHeartbeats 2000000 in
theorem clnCl_c (x : Sx (Cl)) (w : World) (hx : x.In w 6 rdCl) (hn : x.n ≤ 1000) :
 Calls Tryz.prog 42 #[.slice x.A x.n x.c] w fun e w' => ∃ v, e = .returned v ∧ OwnG w' w.heap.size 41 6 rdCl v x.xs ∧ Below w.heap.size w w' := by
 obtain ⟨S, hS⟩ : ∃ S : Ending → World → Prop, (fun e w' => ∃ v, e = .returned v ∧ OwnG w' w.heap.size 41 6 rdCl v x.xs ∧ Below w.heap.size w w') = S := ⟨_, rfl⟩
 show Calls _ _ _ _ (fun e w' => (fun e w' => ∃ v, e = .returned v ∧ OwnG w' w.heap.size 41 6 rdCl v x.xs ∧ Below w.heap.size w w') e w')
 rw [hS]
 have HS : Hid (∀ v w', OwnG w' w.heap.size 41 6 rdCl v x.xs → Below w.heap.size w w' → S (.returned v) w') := Lib.hid fun v w' h1 h2 => by rw [← hS]; exact ⟨v, rfl, h1, h2⟩
 have hq : ∀ (w : World) (a : Option Addr) (n c n' c' : Nat), (binOp .eql 26 (.slice a n c) (.slice none n' c')).run Tryz.prog w = .ok (.bool a.isNone) w := fun w a n c n' c' => Lib.run_eql_slice_nil w _ _ a n c n' c' Tryz.underlying26
 have Hx := Lib.hid hx
 clear hx hS
 cases hA : x.A with
 | none =>
   have h0 : x.xs = [] := by
    rcases Hx.out.sl with h | ⟨b, off, h, _⟩
    · exact h
    · rw [hA] at h; cases h
   have hn0 : x.n = 0 := by rw [← Hx.out.len, h0]; rfl
   have HO : Hid (OwnG w w.heap.size 41 6 rdCl (.slice none 0 0) x.xs) := Lib.hid (by rw [h0]; exact OwnG.nil _ _ _)
   rw [hn0]
   clear hA h0 hn0 hn
   have HF := Lib.hid (HS.out _ _ HO.out (Below.refl _ _))
   go_enter Tryz.func42, Tryz.ntmps42
   go_wp2
   exact HF.out
 | some ad =>
   have Hs : Hid (SlG w (some ad) 6 rdCl x.xs) := Lib.hid (by rw [← hA]; exact Hx.out.sl)
   have HO : Hid (OwnG (w.alloc (.cells #[] 41)) w.heap.size 41 6 rdCl (.slice (some ⟨w.heap.size, 0, none⟩) 0 0) ([] : List (Cl))) := Lib.hid (OwnG.made w w.heap.size 41 #[] 0 (Nat.le_refl _) (Nat.zero_le _) rfl)
   have Hb := Lib.hid (below_one w (.cells #[] 41))
   have Hl := Lib.hid Hx.out.len
   clear hA
   go_enter Tryz.func42, Tryz.ntmps42
   go_wp2_with (at_builtin; go_must (refine wpList_appG clOk9 rfl (.tmp 5) (.tmp 6) rfl w.heap.size _ [] x.xs (some ad) x.n x.c rfl HO.out rfl Hl.out (Hs.out.after Hb.out) (by have := Hl.out; simp [maxLen]; omega) (by have := Hl.out; simp; omega) (by simp) ?_; intro v1 w2 hv1 hg1; have HV1 := Lib.hid hv1; have HB1 := Lib.hid (Hb.out.grown hg1 (by simp) (fun k hk => (HO.out.lt k hk).1)); clear hv1 hg1))
   exact HS.out _ _ HV1.out HB1.out
set_option maxHeartbeats 2000000 in
theorem clnEx_c (x : Sx (Sx Nd)) (w : World) (hx : x.In w 1 rdX) (hn : x.n ≤ 1000) :
 Calls Tryz.prog 43 #[.slice x.A x.n x.c] w fun e w' => ∃ v, e = .returned v ∧ OwnG w' w.heap.size 32 1 rdX v x.xs ∧ Below w.heap.size w w' := by
 obtain ⟨S, hS⟩ : ∃ S : Ending → World → Prop, (fun e w' => ∃ v, e = .returned v ∧ OwnG w' w.heap.size 32 1 rdX v x.xs ∧ Below w.heap.size w w') = S := ⟨_, rfl⟩
 show Calls _ _ _ _ (fun e w' => (fun e w' => ∃ v, e = .returned v ∧ OwnG w' w.heap.size 32 1 rdX v x.xs ∧ Below w.heap.size w w') e w')
 rw [hS]
 have HS : Hid (∀ v w', OwnG w' w.heap.size 32 1 rdX v x.xs → Below w.heap.size w w' → S (.returned v) w') := Lib.hid fun v w' h1 h2 => by rw [← hS]; exact ⟨v, rfl, h1, h2⟩
 have hq : ∀ (w : World) (a : Option Addr) (n c n' c' : Nat), (binOp .eql 27 (.slice a n c) (.slice none n' c')).run Tryz.prog w = .ok (.bool a.isNone) w := fun w a n c n' c' => Lib.run_eql_slice_nil w _ _ a n c n' c' Tryz.underlying27
 have Hx := Lib.hid hx
 clear hx hS
 cases hA : x.A with
 | none =>
   have h0 : x.xs = [] := by
    rcases Hx.out.sl with h | ⟨b, off, h, _⟩
    · exact h
    · rw [hA] at h; cases h
   have hn0 : x.n = 0 := by rw [← Hx.out.len, h0]; rfl
   have HO : Hid (OwnG w w.heap.size 32 1 rdX (.slice none 0 0) x.xs) := Lib.hid (by rw [h0]; exact OwnG.nil _ _ _)
   rw [hn0]
   clear hA h0 hn0 hn
   have HF := Lib.hid (HS.out _ _ HO.out (Below.refl _ _))
   go_enter Tryz.func43, Tryz.ntmps43
   go_wp2
   exact HF.out
 | some ad =>
   have Hs : Hid (SlG w (some ad) 1 rdX x.xs) := Lib.hid (by rw [← hA]; exact Hx.out.sl)
   have HO : Hid (OwnG (w.alloc (.cells #[] 32)) w.heap.size 32 1 rdX (.slice (some ⟨w.heap.size, 0, none⟩) 0 0) ([] : List (Sx Nd))) := Lib.hid (OwnG.made w w.heap.size 32 #[] 0 (Nat.le_refl _) (Nat.zero_le _) rfl)
   have Hb := Lib.hid (below_one w (.cells #[] 32))
   have Hl := Lib.hid Hx.out.len
   clear hA
   go_enter Tryz.func43, Tryz.ntmps43
   go_wp2_with (at_builtin; go_must (refine wpList_appG exOk9 rfl (.tmp 5) (.tmp 6) rfl w.heap.size _ [] x.xs (some ad) x.n x.c rfl HO.out rfl Hl.out (Hs.out.after Hb.out) (by have := Hl.out; simp [maxLen]; omega) (by have := Hl.out; simp; omega) (by simp) ?_; intro v1 w2 hv1 hg1; have HV1 := Lib.hid hv1; have HB1 := Lib.hid (Hb.out.grown hg1 (by simp) (fun k hk => (HO.out.lt k hk).1)); clear hv1 hg1))
   exact HS.out _ _ HV1.out HB1.out
set_option maxHeartbeats 2000000 in
theorem clnNd_c (x : Sx (Nd)) (w : World) (hx : x.In w 5 rdN) (hn : x.n ≤ 1000) :
 Calls Tryz.prog 44 #[.slice x.A x.n x.c] w fun e w' => ∃ v, e = .returned v ∧ OwnG w' w.heap.size 83 5 rdN v x.xs ∧ Below w.heap.size w w' := by
 obtain ⟨S, hS⟩ : ∃ S : Ending → World → Prop, (fun e w' => ∃ v, e = .returned v ∧ OwnG w' w.heap.size 83 5 rdN v x.xs ∧ Below w.heap.size w w') = S := ⟨_, rfl⟩
 show Calls _ _ _ _ (fun e w' => (fun e w' => ∃ v, e = .returned v ∧ OwnG w' w.heap.size 83 5 rdN v x.xs ∧ Below w.heap.size w w') e w')
 rw [hS]
 have HS : Hid (∀ v w', OwnG w' w.heap.size 83 5 rdN v x.xs → Below w.heap.size w w' → S (.returned v) w') := Lib.hid fun v w' h1 h2 => by rw [← hS]; exact ⟨v, rfl, h1, h2⟩
 have hq : ∀ (w : World) (a : Option Addr) (n c n' c' : Nat), (binOp .eql 32 (.slice a n c) (.slice none n' c')).run Tryz.prog w = .ok (.bool a.isNone) w := fun w a n c n' c' => Lib.run_eql_slice_nil w _ _ a n c n' c' Tryz.underlying32
 have Hx := Lib.hid hx
 clear hx hS
 cases hA : x.A with
 | none =>
   have h0 : x.xs = [] := by
    rcases Hx.out.sl with h | ⟨b, off, h, _⟩
    · exact h
    · rw [hA] at h; cases h
   have hn0 : x.n = 0 := by rw [← Hx.out.len, h0]; rfl
   have HO : Hid (OwnG w w.heap.size 83 5 rdN (.slice none 0 0) x.xs) := Lib.hid (by rw [h0]; exact OwnG.nil _ _ _)
   rw [hn0]
   clear hA h0 hn0 hn
   have HF := Lib.hid (HS.out _ _ HO.out (Below.refl _ _))
   go_enter Tryz.func44, Tryz.ntmps44
   go_wp2
   exact HF.out
 | some ad =>
   have Hs : Hid (SlG w (some ad) 5 rdN x.xs) := Lib.hid (by rw [← hA]; exact Hx.out.sl)
   have HO : Hid (OwnG (w.alloc (.cells #[] 83)) w.heap.size 83 5 rdN (.slice (some ⟨w.heap.size, 0, none⟩) 0 0) ([] : List (Nd))) := Lib.hid (OwnG.made w w.heap.size 83 #[] 0 (Nat.le_refl _) (Nat.zero_le _) rfl)
   have Hb := Lib.hid (below_one w (.cells #[] 83))
   have Hl := Lib.hid Hx.out.len
   clear hA
   go_enter Tryz.func44, Tryz.ntmps44
   go_wp2_with (at_builtin; go_must (refine wpList_appG ndOk9 rfl (.tmp 5) (.tmp 6) rfl w.heap.size _ [] x.xs (some ad) x.n x.c rfl HO.out rfl Hl.out (Hs.out.after Hb.out) (by have := Hl.out; simp [maxLen]; omega) (by have := Hl.out; simp; omega) (by simp) ?_; intro v1 w2 hv1 hg1; have HV1 := Lib.hid hv1; have HB1 := Lib.hid (Hb.out.grown hg1 (by simp) (fun k hk => (HO.out.lt k hk).1)); clear hv1 hg1))
   exact HS.out _ _ HV1.out HB1.out
set_option maxHeartbeats 2000000 in
theorem clnI_c (x : Sx (Int)) (w : World) (hx : x.In w 1 rdI) (hn : x.n ≤ 1000) :
 Calls Tryz.prog 45 #[.slice x.A x.n x.c] w fun e w' => ∃ v, e = .returned v ∧ OwnG w' w.heap.size 3 1 rdI v x.xs ∧ Below w.heap.size w w' := by
 obtain ⟨S, hS⟩ : ∃ S : Ending → World → Prop, (fun e w' => ∃ v, e = .returned v ∧ OwnG w' w.heap.size 3 1 rdI v x.xs ∧ Below w.heap.size w w') = S := ⟨_, rfl⟩
 show Calls _ _ _ _ (fun e w' => (fun e w' => ∃ v, e = .returned v ∧ OwnG w' w.heap.size 3 1 rdI v x.xs ∧ Below w.heap.size w w') e w')
 rw [hS]
 have HS : Hid (∀ v w', OwnG w' w.heap.size 3 1 rdI v x.xs → Below w.heap.size w w' → S (.returned v) w') := Lib.hid fun v w' h1 h2 => by rw [← hS]; exact ⟨v, rfl, h1, h2⟩
 have hq : ∀ (w : World) (a : Option Addr) (n c n' c' : Nat), (binOp .eql 33 (.slice a n c) (.slice none n' c')).run Tryz.prog w = .ok (.bool a.isNone) w := fun w a n c n' c' => Lib.run_eql_slice_nil w _ _ a n c n' c' Tryz.underlying33
 have Hx := Lib.hid hx
 clear hx hS
 cases hA : x.A with
 | none =>
   have h0 : x.xs = [] := by
    rcases Hx.out.sl with h | ⟨b, off, h, _⟩
    · exact h
    · rw [hA] at h; cases h
   have hn0 : x.n = 0 := by rw [← Hx.out.len, h0]; rfl
   have HO : Hid (OwnG w w.heap.size 3 1 rdI (.slice none 0 0) x.xs) := Lib.hid (by rw [h0]; exact OwnG.nil _ _ _)
   rw [hn0]
   clear hA h0 hn0 hn
   have HF := Lib.hid (HS.out _ _ HO.out (Below.refl _ _))
   go_enter Tryz.func45, Tryz.ntmps45
   go_wp2
   exact HF.out
 | some ad =>
   have Hs : Hid (SlG w (some ad) 1 rdI x.xs) := Lib.hid (by rw [← hA]; exact Hx.out.sl)
   have HO : Hid (OwnG (w.alloc (.cells #[] 3)) w.heap.size 3 1 rdI (.slice (some ⟨w.heap.size, 0, none⟩) 0 0) ([] : List (Int))) := Lib.hid (OwnG.made w w.heap.size 3 #[] 0 (Nat.le_refl _) (Nat.zero_le _) rfl)
   have Hb := Lib.hid (below_one w (.cells #[] 3))
   have Hl := Lib.hid Hx.out.len
   clear hA
   go_enter Tryz.func45, Tryz.ntmps45
   go_wp2_with (at_builtin; go_must (refine wpList_appG iOk rfl (.tmp 5) (.tmp 6) rfl w.heap.size _ [] x.xs (some ad) x.n x.c rfl HO.out rfl Hl.out (Hs.out.after Hb.out) (by have := Hl.out; simp [maxLen]; omega) (by have := Hl.out; simp; omega) (by simp) ?_; intro v1 w2 hv1 hg1; have HV1 := Lib.hid hv1; have HB1 := Lib.hid (Hb.out.grown hg1 (by simp) (fun k hk => (HO.out.lt k hk).1)); clear hv1 hg1))
   exact HS.out _ _ HV1.out HB1.out
set_option maxHeartbeats 2000000 in
theorem clnAg_c (x : Sx (Ag)) (w : World) (hx : x.In w 2 rdAg) (hn : x.n ≤ 1000) :
 Calls Tryz.prog 46 #[.slice x.A x.n x.c] w fun e w' => ∃ v, e = .returned v ∧ OwnG w' w.heap.size 73 2 rdAg v x.xs ∧ Below w.heap.size w w' := by
 obtain ⟨S, hS⟩ : ∃ S : Ending → World → Prop, (fun e w' => ∃ v, e = .returned v ∧ OwnG w' w.heap.size 73 2 rdAg v x.xs ∧ Below w.heap.size w w') = S := ⟨_, rfl⟩
 show Calls _ _ _ _ (fun e w' => (fun e w' => ∃ v, e = .returned v ∧ OwnG w' w.heap.size 73 2 rdAg v x.xs ∧ Below w.heap.size w w') e w')
 rw [hS]
 have HS : Hid (∀ v w', OwnG w' w.heap.size 73 2 rdAg v x.xs → Below w.heap.size w w' → S (.returned v) w') := Lib.hid fun v w' h1 h2 => by rw [← hS]; exact ⟨v, rfl, h1, h2⟩
 have hq : ∀ (w : World) (a : Option Addr) (n c n' c' : Nat), (binOp .eql 34 (.slice a n c) (.slice none n' c')).run Tryz.prog w = .ok (.bool a.isNone) w := fun w a n c n' c' => Lib.run_eql_slice_nil w _ _ a n c n' c' Tryz.underlying34
 have Hx := Lib.hid hx
 clear hx hS
 cases hA : x.A with
 | none =>
   have h0 : x.xs = [] := by
    rcases Hx.out.sl with h | ⟨b, off, h, _⟩
    · exact h
    · rw [hA] at h; cases h
   have hn0 : x.n = 0 := by rw [← Hx.out.len, h0]; rfl
   have HO : Hid (OwnG w w.heap.size 73 2 rdAg (.slice none 0 0) x.xs) := Lib.hid (by rw [h0]; exact OwnG.nil _ _ _)
   rw [hn0]
   clear hA h0 hn0 hn
   have HF := Lib.hid (HS.out _ _ HO.out (Below.refl _ _))
   go_enter Tryz.func46, Tryz.ntmps46
   go_wp2
   exact HF.out
 | some ad =>
   have Hs : Hid (SlG w (some ad) 2 rdAg x.xs) := Lib.hid (by rw [← hA]; exact Hx.out.sl)
   have HO : Hid (OwnG (w.alloc (.cells #[] 73)) w.heap.size 73 2 rdAg (.slice (some ⟨w.heap.size, 0, none⟩) 0 0) ([] : List (Ag))) := Lib.hid (OwnG.made w w.heap.size 73 #[] 0 (Nat.le_refl _) (Nat.zero_le _) rfl)
   have Hb := Lib.hid (below_one w (.cells #[] 73))
   have Hl := Lib.hid Hx.out.len
   clear hA
   go_enter Tryz.func46, Tryz.ntmps46
   go_wp2_with (at_builtin; go_must (refine wpList_appG agOk9 rfl (.tmp 5) (.tmp 6) rfl w.heap.size _ [] x.xs (some ad) x.n x.c rfl HO.out rfl Hl.out (Hs.out.after Hb.out) (by have := Hl.out; simp [maxLen]; omega) (by have := Hl.out; simp; omega) (by simp) ?_; intro v1 w2 hv1 hg1; have HV1 := Lib.hid hv1; have HB1 := Lib.hid (Hb.out.grown hg1 (by simp) (fun k hk => (HO.out.lt k hk).1)); clear hv1 hg1))
   exact HS.out _ _ HV1.out HB1.out
def ApX {α : Type} (h : Sx α) (g : Nat) : Prop := h.xs ≠ [] → ∀ k, h.A.map (·.block) = some k → k ≠ g
theorem Sx.In.fresh {α : Type} {w : World} {S : Nat} {rd : α → List Value} {h : Sx α} (hi : h.In w S rd) {g : Nat} (hg : w.heap.size ≤ g) : ApX h g := by
 intro h0 k hk
 rcases hi.sl with h1 | ⟨b, off, hA, hlt, _⟩
 · exact absurd h1 h0
 · rw [hA] at hk; simp at hk; omega
theorem Sx.In.setAt {α : Type} {w : World} {S : Nat} {rd : α → List Value} {h : Sx α} (hi : h.In w S rd) {g : Nat} (ha : ApX h g) (j : Nat) (u : Value) : h.In (w.setCell ⟨g, j, none⟩ u) S rd := by
 refine ⟨hi.len, hi.max, ?_⟩
 by_cases h0 : h.xs = []
 · exact .inl h0
 rcases hi.sl with h1 | ⟨b, off, hA, hlt, hc⟩
 · exact absurd h1 h0
 · have hne : b ≠ g := ha h0 b (by rw [hA]; rfl)
   refine .inr ⟨b, off, hA, by simpa [World.setCell] using hlt, fun i x hx j' u' hu => ?_⟩
   rw [World.cell?_setCell_other _ _ _ _ (by intro e; simp only [Addr.mk.injEq] at e; exact hne e.1.symm)]
   exact hc i x hx j' u' hu
theorem Sx.Lo.ap {α : Type} {h : Sx α} {B g : Nat} (hl : h.Lo B) (hg : g < B) : ApX h g := fun _ k hk => by have := hl k hk; omega
structure ApD (x : Dm) (g : Nat) : Prop where
 cols : ApX x.t.cols g
 chks : ApX x.t.chks g
 each : ∀ e ∈ x.t.chks.xs, ApX e g
 whr : ApX x.v.whr g
 pick : ApX x.v.pick g
 aggs : ApX x.v.aggs g
theorem Dm.In.fresh {w : World} {x : Dm} (hi : x.In w) {g : Nat} (hg : w.heap.size ≤ g) : ApD x g := ⟨hi.t.cols.fresh hg, hi.t.chks.fresh hg, fun e he => (hi.t.each e he).fresh hg, hi.v.whr.fresh hg, hi.v.pick.fresh hg, hi.v.aggs.fresh hg⟩
theorem Dm.In.setAt {w : World} {x : Dm} (hi : x.In w) {g : Nat} (ha : ApD x g) (j : Nat) (u : Value) : x.In (w.setCell ⟨g, j, none⟩ u) :=
 ⟨⟨hi.t.cols.setAt ha.cols j u, hi.t.chks.setAt ha.chks j u, fun e he => (hi.t.each e he).setAt (ha.each e he) j u⟩, ⟨hi.v.whr.setAt ha.whr j u, hi.v.pick.setAt ha.pick j u, hi.v.aggs.setAt ha.aggs j u⟩⟩
structure RdB {α : Type} (w : World) (g S : Nat) (rd : α → List Value) (xs : List α) : Prop where
 lt : g < w.heap.size
 thaw : ∀ j, w.frozen? ⟨g, j, none⟩ = false
 at' : ∀ i x, xs[i]? = some x → ∀ j u, (rd x)[j]? = some u → w.cell? ⟨g, i * S + j, none⟩ = some u
theorem RdB.after {α : Type} {w w' : World} {g S : Nat} {rd : α → List Value} {xs : List α} (h : RdB w g S rd xs) (hb : Below w.heap.size w w') : RdB w' g S rd xs :=
 ⟨Nat.lt_of_lt_of_le h.lt hb.size, fun j => by rw [hb.frozen (p := ⟨g, j, none⟩) h.lt]; exact h.thaw j, fun i x hx j u hu => (hb.cell (p := ⟨g, i * S + j, none⟩) h.lt).trans (h.at' i x hx j u hu)⟩
theorem RdB.slG {α : Type} {w : World} {g S : Nat} {rd : α → List Value} {xs : List α} (h : RdB w g S rd xs) : SlG w (some ⟨g, 0, none⟩) S rd xs := .inr ⟨g, 0, rfl, h.lt, fun i x hx j u hu => by rw [Nat.zero_add]; exact h.at' i x hx j u hu⟩
theorem RdB.other {α : Type} {w : World} {g S c : Nat} {rd : α → List Value} {xs : List α} (h : RdB w g S rd xs) (hc : c ≠ g) (j : Nat) (u : Value) : RdB (w.setCell ⟨c, j, none⟩ u) g S rd xs :=
 ⟨by simpa [World.setCell] using h.lt, fun j' => by rw [World.frozen?_setCell]; exact h.thaw j', fun i x hx j' u' hu => by
   rw [World.cell?_setCell_other _ _ _ _ (by intro e; simp only [Addr.mk.injEq] at e; exact hc e.1)]
   exact h.at' i x hx j' u' hu⟩
theorem RdB.put {α : Type} {w : World} {g S : Nat} {rd : α → List Value} {xs : List α} (h : RdB w g S rd xs) (hl : ∀ x, (rd x).length = S) {i : Nat} {x x' : α} (hi : xs[i]? = some x) {j : Nat} {u : Value} (hj : j < S) (hr : rd x' = (rd x).set j u) : RdB (w.setCell ⟨g, i * S + j, none⟩ u) g S rd (xs.set i x') := by
 have h0 := h.at' i x hi j _ (List.getElem?_eq_getElem (by rw [hl]; exact hj))
 refine ⟨by simpa [World.setCell] using h.lt, fun j' => by rw [World.frozen?_setCell]; exact h.thaw j', fun i' y hy j' u' hu => ?_⟩
 have hj' : j' < S := by have := (List.getElem?_eq_some_iff.1 hu).1; rwa [hl] at this
 rw [List.getElem?_set] at hy
 split at hy
 · rename_i hii
   subst hii
   split at hy
   · obtain rfl := Option.some.inj hy
     rw [hr, List.getElem?_set] at hu
     split at hu
     · rename_i hjj
       subst hjj
       split at hu
       · obtain rfl := Option.some.inj hu
         exact World.cell?_setCell_same _ _ _ h0
       · cases hu
     · rename_i hjj
       rw [World.cell?_setCell_other _ _ _ _ (by intro e; simp only [Addr.mk.injEq] at e; omega)]
       exact h.at' i x hi j' u' hu
   · cases hy
 · rename_i hii
   rw [World.cell?_setCell_other _ _ _ _ (by
    intro e
    simp only [Addr.mk.injEq] at e
    have e2 := e.2.1
    have : i = i' := by
     have a1 : (i * S + j) / S = i := by rw [Nat.mul_comm, Nat.mul_add_div (by omega), Nat.div_eq_of_lt hj, Nat.add_zero]
     have a2 : (i' * S + j') / S = i' := by rw [Nat.mul_comm, Nat.mul_add_div (by omega), Nat.div_eq_of_lt hj', Nat.add_zero]
     rw [← a1, ← a2, e2]
    exact hii this)]
   exact h.at' i' y hy j' u' hu
theorem OwnG.rdB {α : Type} {w : World} {B : Nat} {E : TypeId} {S : Nat} {rd : α → List Value} {v : Value} {xs : List α} (hl : ∀ x, (rd x).length = S) (h : OwnG w B E S rd v xs) (hn : xs ≠ []) : ∃ g c, v = .slice (some ⟨g, 0, none⟩) xs.length c ∧ B ≤ g ∧ xs.length ≤ c ∧ c ≤ maxLen ∧ RdB w g S rd xs := by
 have h' := h
 rcases h.2 with ⟨rfl, hz⟩ | ⟨g, cap, cur, rfl, hB, hh, hle, hm, _⟩
 · exact absurd (List.eq_nil_of_length_eq_zero hz) hn
 · refine ⟨g, cap, rfl, hB, hle, hm, (h'.lt g rfl).2, fun j => by simp [World.frozen?, hh], fun i x hx j u hu => ?_⟩
   have hj : j < S := by have := (List.getElem?_eq_some_iff.1 hu).1; rwa [hl] at this
   have := World.ownsRow.cells (g := g) h' rfl (i * S + j) u ((flat_at hl xs i j x hx hj).trans hu)
   rwa [Go.WideShapes.add_plain, Nat.zero_add] at this
structure CpH (w1 : World) (G : Nat) (l : List Dm) (i : Nat) (wr : World) : Prop where
 rd : RdB wr G 13 rdD l
 ap : Apb G w1 wr
 each : ∀ m y, l[m]? = some y → m ≠ i → y.In wr ∧ ApD y G
theorem CpH.after {w1 : World} {G : Nat} {l : List Dm} {i : Nat} {wr w' : World} (h : CpH w1 G l i wr) (hb : Below wr.heap.size wr w') : CpH w1 G l i w' := ⟨h.rd.after hb, h.ap.then hb h.ap.size, fun m y hy hm => ⟨(h.each m y hy hm).1.after hb, (h.each m y hy hm).2⟩⟩
theorem rdD_len (x : Dm) : (rdD x).length = 13 := rfl
theorem CpH.put {w1 : World} {G : Nat} {l : List Dm} {i : Nat} {wr : World} (h : CpH w1 G l i wr) {x x' : Dm} (hi : l[i]? = some x) {j : Nat} {u : Value} (hj : j < 13) (hr : rdD x' = (rdD x).set j u) : CpH w1 G (l.set i x') i (wr.setCell ⟨G, i * 13 + j, none⟩ u) :=
 ⟨h.rd.put rdD_len hi hj hr, h.ap.set _ _, fun m y hy hm => by
   rw [List.getElem?_set_ne (fun e => hm e.symm)] at hy
   obtain ⟨h1, h2⟩ := h.each m y hy hm
   exact ⟨h1.setAt h2 _ _, h2⟩⟩
theorem CpH.other {w1 : World} {G c : Nat} {l : List Dm} {i : Nat} {wr : World} (h : CpH w1 G l i wr) (hc : w1.heap.size ≤ c) (hne : c ≠ G) (ha : ∀ m y, l[m]? = some y → m ≠ i → ApD y c) (j : Nat) (u : Value) : CpH w1 G l i (wr.setCell ⟨c, j, none⟩ u) :=
 ⟨h.rd.other hne _ _, h.ap.own hc _ _, fun m y hy hm => ⟨(h.each m y hy hm).1.setAt (ha m y hy hm) _ _, (h.each m y hy hm).2⟩⟩
structure Dm.Few9 (x : Dm) : Prop where
 cols : x.t.cols.n ≤ 1000
 chks : x.t.chks.n ≤ 1000
 each : ∀ e ∈ x.t.chks.xs, e.n ≤ 1000
 whr : x.v.whr.n ≤ 1000
 pick : x.v.pick.n ≤ 1000
 aggs : x.v.aggs.n ≤ 1000
theorem may_few {x : Dm} {w : World} (hm : MayD x.df) (hi : x.In w) : x.Few9 := by
 have h1 : x.df.t.cols.length = x.t.cols.n := hi.t.cols.len
 have h2 : x.df.t.checks.length = x.t.chks.n := by show (x.t.chks.xs.map (·.xs)).length = _; rw [List.length_map]; exact hi.t.chks.len
 have h3 : x.df.v.whr.length = x.v.whr.n := hi.v.whr.len
 have h4 : x.df.v.pick.length = x.v.pick.n := hi.v.pick.len
 have h5 : x.df.v.aggs.length = x.v.aggs.n := hi.v.aggs.len
 have h6 : ∀ e ∈ x.t.chks.xs, e.xs ∈ x.df.t.checks ∧ e.xs.length = e.n := fun e he => ⟨List.mem_map.2 ⟨e, he, rfl⟩, (hi.t.each e he).len⟩
 rcases hm with ⟨hk, ht, hv⟩ | ⟨hk, ht, hv⟩
 · unfold mayTb at ht
   simp only [Bool.and_eq_true, decide_eq_true_eq, List.all_eq_true] at ht
   rw [hv] at h3 h4 h5
   simp [vw0] at h3 h4 h5
   refine ⟨by omega, by omega, fun e he => ?_, by omega, by omega, by omega⟩
   have := ht.2.2.2.2.2 e.xs (h6 e he).1
   unfold mayE at this
   simp only [Bool.and_eq_true, decide_eq_true_eq] at this
   have := (h6 e he).2
   omega
 · unfold mayVw at hv
   simp only [Bool.and_eq_true, decide_eq_true_eq] at hv
   have hw := hv.2.2.2.1
   unfold mayE at hw
   simp only [Bool.and_eq_true, decide_eq_true_eq] at hw
   rw [ht] at h1 h2 h6
   simp [tb0] at h1 h2 h6
   refine ⟨by omega, by omega, fun e he => ?_, by omega, by have := hv.2.2.2.2.1; omega, by have := hv.2.2.2.2.2.2.1; omega⟩
   have hl := hi.t.chks.len
   have : x.t.chks.xs = [] := List.eq_nil_of_length_eq_zero (by omega)
   rw [this] at he
   cases he
attribute [local go_sem ↓] Go.wp_at_zero Go.wp_at_succ
theorem CpH.put2 {w1 : World} {G : Nat} {l : List Dm} {i : Nat} {wr : World} {x : Dm} (h : CpH w1 G (l.set i x) i wr) (hl : i < l.length) (x' : Dm) {j : Nat} {u : Value} (hj : j < 13) (hr : rdD x' = (rdD x).set j u) : CpH w1 G (l.set i x') i (wr.setCell ⟨G, i * 13 + j, none⟩ u) := by
 have := h.put (List.getElem?_set_self hl) hj hr
 rwa [List.set_set] at this
theorem CpH.cell {w1 : World} {G : Nat} {l : List Dm} {i : Nat} {wr : World} {x : Dm} (h : CpH w1 G (l.set i x) i wr) (hl : i < l.length) (j : Nat) {u : Value} (hu : (rdD x)[j]? = some u) : wr.cell? ⟨G, i * 13 + j, none⟩ = some u := h.rd.at' i x (List.getElem?_set_self hl) j u hu
theorem RdB.put1 {α : Type} {w : World} {g : Nat} {rd : α → List Value} {xs : List α} (h : RdB w g 1 rd xs) (hl : ∀ x, (rd x).length = 1) {i : Nat} {x x' : α} (hi : xs[i]? = some x) {u : Value} (hr : rd x' = [u]) : RdB (w.setCell ⟨g, i, none⟩ u) g 1 rd (xs.set i x') := by
 have hs : rd x' = (rd x).set 0 u := by
  have h1 := hl x
  rw [hr]
  cases hx : rd x with
  | nil => rw [hx] at h1; cases h1
  | cons a r =>
    rw [hx] at h1
    cases r with
    | nil => rfl
    | cons b q => simp at h1
 have := h.put hl hi (by decide) hs
 rwa [Nat.mul_one, Nat.add_zero] at this
def CopyS (c : List Df) (w : World) (e : Ending) (w' : World) : Prop := Below w.heap.size w w' ∧
 ∃ (A : Option Addr) (n cp : Nat) (zs : List Dm), e = .returned (.slice A n cp) ∧ n ≤ cp ∧ cp ≤ maxLen ∧ CtL w' A n zs ∧ zs.map (·.df) = c ∧ ∀ z ∈ zs, z.t.cols.n ≤ z.t.cols.c ∧ z.t.cols.c ≤ maxLen
structure CpL (w1 : World) (G : Nat) (c : List Df) (i : Nat) (l : List Dm) (wr : World) : Prop where
 rd : RdB wr G 13 rdD l
 ap : Apb G w1 wr
 df : l.map (·.df) = c
 each : ∀ (m : Nat) (y : Dm), l[m]? = some y → y.In wr ∧ ApD y G
 cap : ∀ (m : Nat) (y : Dm), l[m]? = some y → m < i → y.t.cols.n ≤ y.t.cols.c ∧ y.t.cols.c ≤ maxLen
structure InJ (w1 : World) (G C : Nat) (l : List Dm) (i : Nat) (X : Sx Cl) (v : Vm) (n : Nat) (o : List (List Nd)) (es : List (Sx Nd)) (wr : World) : Prop where
 cp : CpH w1 G l i wr
 X : X.In wr 6 rdCl
 V : v.In wr
 rd : 0 < n → RdB wr C 1 rdX es
 ee : ∀ e ∈ es, e.In wr 5 rdN ∧ ApX e G ∧ ApX e C
 xs : es.map (·.xs) = o
 sz : w1.heap.size ≤ wr.heap.size
set_option maxHeartbeats 16000000 in
theorem copy9_c (d : Dm) (A : Option Addr) (n c : Nat) (xs : List Dm) (w : World) (hC : CtL w A n xs) (hd : d.In w) (hM : ∀ x ∈ xs ++ [d], MayD x.df) (hn : n ≤ 20) :
 Calls Tryz.prog 29 #[.slice A n c, d.w] w (CopyS (xs.map (·.df) ++ [d.df]) w) := by
 obtain ⟨S, hS⟩ : ∃ S, CopyS (xs.map (·.df) ++ [d.df]) w = S := ⟨_, rfl⟩
 rw [hS]
 have HS := Lib.hid hS
 obtain ⟨w0, hw0⟩ : ∃ w0, w.alloc (.cells d.cl.toArray 38) = w0 := ⟨_, rfl⟩
 have hW0 : Hid (w.alloc (.cells #[.int .i64 d.k, .string d.t.name, .slice d.t.cols.A d.t.cols.n d.t.cols.c, .slice d.t.chks.A d.t.chks.n d.t.chks.c, .string d.v.name, .string d.v.frm, .string d.v.wth, .int .i64 d.v.on0, .int .i64 d.v.on1, .slice d.v.whr.A d.v.whr.n d.v.whr.c, .slice d.v.pick.A d.v.pick.n d.v.pick.c, .bool d.v.grp, .slice d.v.aggs.A d.v.aggs.n d.v.aggs.c] 38) = w0) := Lib.hid hw0
 have hB0 : Below w.heap.size w w0 := by rw [← hw0]; exact below_one _ _
 have hK : BkD w0 w.heap.size d := by rw [← hw0]; exact Bk.new _ _ _
 obtain ⟨w1, hw1⟩ : ∃ w1, (w0.alloc (.cells d.cl.toArray 38)).alloc (.cells #[.slice A n c, .slice (some ⟨w0.heap.size, 0, none⟩) 1 1] 23) = w1 := ⟨_, rfl⟩
 have hW1 : Hid ((w0.alloc (.cells #[.int .i64 d.k, .string d.t.name, .slice d.t.cols.A d.t.cols.n d.t.cols.c, .slice d.t.chks.A d.t.chks.n d.t.chks.c, .string d.v.name, .string d.v.frm, .string d.v.wth, .int .i64 d.v.on0, .int .i64 d.v.on1, .slice d.v.whr.A d.v.whr.n d.v.whr.c, .slice d.v.pick.A d.v.pick.n d.v.pick.c, .bool d.v.grp, .slice d.v.aggs.A d.v.aggs.n d.v.aggs.c] 38)).alloc (.cells #[.slice A n c, .slice (some ⟨w0.heap.size, 0, none⟩) 1 1] 23) = w1) := Lib.hid hw1
 have hB1 : Below w0.heap.size w0 w1 := by rw [← hw1]; exact below_two _ _ _
 have hP : Bk w1 (w0.heap.size + 1) #[.slice A n c, .slice (some ⟨w0.heap.size, 0, none⟩) 1 1] 23 := by
  have := Bk.new (w0.alloc (.cells d.cl.toArray 38)) #[.slice A n c, .slice (some ⟨w0.heap.size, 0, none⟩) 1 1] 23
  rw [hw1] at this
  simpa using this
 have hSl : SlG w1 (some ⟨w0.heap.size, 0, none⟩) 13 rdD [d] := by
  rw [← hw1]
  exact (SlG.new (w := w0) (E := 38) dfOk9.len [d] rfl).alloc _
 have hBw1 := below_via hB0 hB1
 have HCt := Lib.hid (catDf_c (w0.heap.size + 1) A (some ⟨w0.heap.size, 0, none⟩) n c 1 1 xs [d] w1 (hP.cell 0) (hP.cell 1) hP.lt hC.len rfl (by omega) (by omega) (hC.sl.after hBw1) hSl)
 have HIn : Hid (∀ y ∈ xs ++ [d], y.In w1) := Lib.hid fun y hy => by
  rcases List.mem_append.1 hy with hy | hy
  · exact (hC.each y hy).after hBw1
  · obtain rfl := List.mem_singleton.1 hy; exact hd.after hBw1
 have HM := Lib.hid hM
 have HBw1 := Lib.hid hBw1
 have Hlen : Hid ((xs ++ [d]).length = n + 1) := Lib.hid (by rw [List.length_append, hC.len]; rfl)
 obtain ⟨c0, c1, c2, c3, c4, c5, c6, c7, c8, c9, c10, c11, c12, hlt⟩ := hK.all
 clear hS hw0 hB0 hK hw1 hB1 hP hSl hBw1 hC hd hM
 go_enter Tryz.func29, Tryz.ntmps29
 go_upto_region 1 with fail
 rw [hW0.out]
 go_wp2_with fail
 rw [hW1.out]
 refine HCt.out.mono ?_
 rintro e w2 ⟨v0, rfl, hv0, hb2⟩
 obtain ⟨G, cp, hv0e, hGB, hnc, hcm, hrd⟩ := hv0.rdB dfOk9.len (by simp)
 subst hv0e
 obtain ⟨N, hN⟩ : ∃ N, (xs ++ [d]).length = N := ⟨_, rfl⟩
 rw [hN] at hnc
 rw [hN]
 have hN2 : N ≤ 21 := by rw [← hN, Hlen.out]; omega
 have hz1 := HBw1.out.size
 have HJ0 : Hid (CpL w2 G (xs.map (·.df) ++ [d.df]) 0 (xs ++ [d]) w2) := Lib.hid ⟨hrd, Apb.refl _ _, by rw [List.map_append]; rfl, fun m y hy => by
  have hi := HIn.out y (List.mem_of_getElem? hy)
  exact ⟨hi.after hb2, hi.fresh hGB⟩, fun m y _ hm => by omega⟩
 have HB2 := Lib.hid (below_via HBw1.out hb2)
 have HGB := Lib.hid hGB
 have hG2 : G < w2.heap.size := hrd.lt
 have HMd : Hid (∀ l : List Dm, l.map (·.df) = xs.map (·.df) ++ [d.df] → l.length = N ∧ ∀ y ∈ l, MayD y.df) := Lib.hid fun l h => by
  refine ⟨?_, fun y hy => ?_⟩
  · have := congrArg List.length h
    rw [List.length_map, List.length_append, List.length_map] at this
    rw [← hN, this, List.length_append]; rfl
  · have hmem : y.df ∈ xs.map (·.df) ++ [d.df] := by rw [← h]; exact List.mem_map.2 ⟨y, hy, rfl⟩
    rw [show xs.map (·.df) ++ [d.df] = (xs ++ [d]).map (·.df) by rw [List.map_append]; rfl] at hmem
    obtain ⟨q, hq, hqe⟩ := List.mem_map.1 hmem
    rw [← hqe]
    exact HM.out q hq
 have Hcaps := Lib.hid (And.intro hnc hcm)
 have HGw : Hid (w.heap.size ≤ G) := Lib.hid (by omega)
 clear hv0 hb2 hrd hN HCt c0 c1 c2 c3 c4 c5 c6 c7 c8 c9 c10 c11 c12 hlt hGB hcm hz1 HIn Hlen HM
 go_wp2_with fail
 go_loopw [18] (fun q wr => ∃ (i : Nat) (l : List Dm), i ≤ N ∧ q = .int .i64 (i : Int) ∧ Hid (CpL w2 G (xs.map (·.df) ++ [d.df]) i l wr)) (fun q _ => N - (intOf q).toNat)
 case atStart => exact ⟨0, _, Nat.zero_le _, rfl, HJ0⟩
 case round =>
  obtain ⟨i, l, hi, rfl, hj⟩ := hrel
  clear HJ0
  have hll := (HMd.out l hj.out.df).1
  by_cases hlt : i < N
  · obtain ⟨x, hx⟩ : ∃ x, l[i]? = some x := ⟨_, List.getElem?_eq_getElem (by omega)⟩
    have hxl : l.set i x = l := by
     have h1 := (List.getElem?_eq_some_iff.1 hx).2
     rw [← h1]
     exact List.set_getElem_self _
    have hcp0 : CpH w2 G (l.set i x) i wr.drew := by
     rw [hxl]
     have := hj.out
     exact (⟨this.rd, this.ap, fun m y hy _ => this.each m y hy⟩ : CpH w2 G l i wr).after (Below.refl _ _).drew
    obtain ⟨hxi0, hxa⟩ := hj.out.each i x hx
    have hxi : x.In wr.drew := hxi0.after (Below.refl _ _).drew
    have hfew := may_few ((HMd.out l hj.out.df).2 x (List.mem_of_getElem? hx)) hxi
    have hil : i < l.length := by omega
    have hgo : (i : Int) < N := by omega
    have hcapN := Hcaps.out.1
    have hsw := hj.out.ap.size
    go_upto_region 5 with fail
    have HJ := Lib.hid hj.out
    have Hcp0 := Lib.hid hcp0
    have Hxa := Lib.hid hxa
    have Hxi := Lib.hid hxi
    have Hfew := Lib.hid hfew
    have Hx := Lib.hid hx
    have Hll := Lib.hid hll
    clear hcp0 hxa hxi hxi0 hfew hx hxl hj hll
    go_region
    obtain ⟨W, hW⟩ : ∃ W, wr.drew = W := ⟨_, rfl⟩
    have hsw' : w2.heap.size ≤ W.heap.size := by rw [← hW]; exact hsw
    rw [hW] at Hcp0 Hxi ⊢
    have HbW : Hid (Below wr.heap.size wr W) := Lib.hid (by rw [← hW]; exact (Below.refl _ _).drew)
    clear hW hsw
    -- columns
    have g1 : W.cell? ⟨G, i * 13 + 1 + 1, none⟩ = some (.slice x.t.cols.A x.t.cols.n x.t.cols.c) := Hcp0.out.cell hil 2 rfl
    have gl := Hcp0.out.rd.lt
    have HC1 := Lib.hid (clnCl_c x.t.cols W Hxi.out.t.cols Hfew.out.cols)
    go_wp2_with fail
    refine HC1.out.mono ?_
    rintro e w3 ⟨v1, rfl, hv1, hb3⟩
    obtain ⟨X, hX1, hX2, hX3, hX4, hX5, hX6, _⟩ := hv1.sx9 clOk9.len
    subst hX1
    have hcp3 := Hcp0.out.after hb3
    obtain ⟨w4, hw4⟩ : ∃ w4, w3.setCell ⟨G, i * 13 + 1 + 1, none⟩ (.slice X.A X.n X.c) = w4 := ⟨_, rfl⟩
    have hcp4 : CpH w2 G (l.set i ⟨x.k, ⟨x.t.name, X, x.t.chks⟩, x.v⟩) i w4 := by rw [← hw4]; exact hcp3.put2 (j := 2) hil _ (by decide) rfl
    have hXG : ApX X G := hX6.ap (by omega)
    have hX4' : X.In w4 6 rdCl := by rw [← hw4]; exact hX2.setAt hXG _ _
    have hxi3 := Hxi.out.after hb3
    have hxi4 : x.In w4 := by rw [← hw4]; exact hxi3.setAt Hxa.out _ _
    have hb4s : W.heap.size ≤ w4.heap.size := by have := hb3.size; rw [← hw4]; simpa [World.setCell] using this
    have g1s : w3.cell? ⟨G, i * 13 + 1 + 1, none⟩ = some (.slice x.t.cols.A x.t.cols.n x.t.cols.c) := hcp3.cell hil 2 rfl
    have g1f : w3.frozen? ⟨G, i * 13 + 1 + 1, none⟩ = false := hcp3.rd.thaw _
    have g3l := hcp3.rd.lt
    have Hcp4 := Lib.hid hcp4
    have HX := Lib.hid (And.intro hX4' (And.intro hXG (And.intro hX3 (And.intro hX4 hX5))))
    have Hxi4 := Lib.hid hxi4
    have Hw4 := Lib.hid hw4
    clear hv1 hb3 hX2 hX3 hX4 hX5 hX6 hcp3 hcp4 hXG hX4' hxi3 hxi4 hw4 HC1 g1
    go_upto_region 7 with fail
    rw [Hw4.out]
    clear g1s g1f g3l gl
    -- checks
    have g2 : w4.cell? ⟨G, i * 13 + 1 + 2, none⟩ = some (.slice x.t.chks.A x.t.chks.n x.t.chks.c) := Hcp4.out.cell hil 3 rfl
    have gl := Hcp4.out.rd.lt
    have HC2 := Lib.hid (clnEx_c x.t.chks w4 Hxi4.out.t.chks Hfew.out.chks)
    go_wp2_with fail
    refine HC2.out.mono ?_
    rintro e w5 ⟨v2, rfl, hv2, hb5⟩
    obtain ⟨Y, C, hY1, hYn, hYc, hYA, hCs, hYr⟩ : ∃ (Y : Sx (Sx Nd)) (C : Nat), v2 = Y.v ∧ Y.n = x.t.chks.xs.length ∧ Y.n ≤ maxLen ∧ (0 < Y.n → Y.A = some ⟨C, 0, none⟩) ∧ w4.heap.size ≤ C ∧ (0 < Y.n → RdB w5 C 1 rdX x.t.chks.xs) := by
     by_cases h0 : x.t.chks.xs = []
     · obtain ⟨A', c', hA'⟩ := hv2.isSlice
       exact ⟨⟨A', x.t.chks.xs.length, c', []⟩, w4.heap.size, hA', rfl, (by rw [h0]; exact Nat.zero_le _), fun h => by rw [h0] at h; simp at h, Nat.le_refl _, fun h => by rw [h0] at h; simp at h⟩
     · obtain ⟨g, cp', he, hB, h1, h2, h3⟩ := hv2.rdB exOk9.len h0
       exact ⟨⟨some ⟨g, 0, none⟩, x.t.chks.xs.length, cp', []⟩, g, he, rfl, Nat.le_trans h1 h2, fun _ => rfl, hB, fun _ => h3⟩
    subst hY1
    have hcp5 := Hcp4.out.after hb5
    obtain ⟨w6, hw6⟩ : ∃ w6, w5.setCell ⟨G, i * 13 + 1 + 2, none⟩ (.slice Y.A Y.n Y.c) = w6 := ⟨_, rfl⟩
    have hcp6 : CpH w2 G (l.set i ⟨x.k, ⟨x.t.name, X, Y⟩, x.v⟩) i w6 := by rw [← hw6]; exact hcp5.put2 (j := 3) hil _ (by decide) rfl
    have hCG : C ≠ G := by omega
    have hX6 : X.In w6 6 rdCl := by rw [← hw6]; exact (HX.out.1.after hb5).setAt HX.out.2.1 _ _
    have hXC : ApX X C := HX.out.1.fresh hCs
    have hxi5 := Hxi4.out.after hb5
    have hxi6 : x.In w6 := by rw [← hw6]; exact hxi5.setAt Hxa.out _ _
    have hxC : ApD x C := Hxi4.out.fresh hCs
    have hoC : ∀ (m : Nat) (y : Dm), (l.set i ⟨x.k, ⟨x.t.name, X, Y⟩, x.v⟩)[m]? = some y → m ≠ i → ApD y C := fun m y hy hm => by
     rw [List.getElem?_set_ne (fun e => hm e.symm)] at hy
     have := Hcp4.out.each m y (by rw [List.getElem?_set_ne (fun e => hm e.symm)]; exact hy) hm
     exact this.1.fresh hCs
    have hs6 : w5.heap.size = w6.heap.size := by rw [← hw6]; simp [World.setCell]
    have hin6 : InJ w2 G C (l.set i ⟨x.k, ⟨x.t.name, X, Y⟩, x.v⟩) i X x.v Y.n (x.t.chks.xs.map (·.xs)) x.t.chks.xs w6 := ⟨hcp6, hX6, hxi6.v, fun h => by rw [← hw6]; exact (hYr h).other hCG.symm _ _, fun e he => ⟨hxi6.t.each e he, Hxa.out.each e he, hxC.each e he⟩, rfl, by have := hb5.size; omega⟩
    have g2s : w5.cell? ⟨G, i * 13 + 1 + 2, none⟩ = some (.slice x.t.chks.A x.t.chks.n x.t.chks.c) := hcp5.cell hil 3 rfl
    have g2f : w5.frozen? ⟨G, i * 13 + 1 + 2, none⟩ = false := hcp5.rd.thaw _
    have g5l := hcp5.rd.lt
    have HIn := Lib.hid hin6
    have HoC := Lib.hid hoC
    have HXC := Lib.hid (And.intro hXC hxC)
    have HCs := Lib.hid (And.intro hCs hCG)
    have HYA := Lib.hid hYA
    have HYn := Lib.hid hYn
    have Hw6 := Lib.hid hw6
    have HC0 : Hid (w2.heap.size ≤ C) := Lib.hid (by omega)
    have hYm : Y.n ≤ 9223372036854775807 := hYc
    clear hv2 hb5 hYn hYA hCs hYr hcp5 hcp6 hCG hX6 hXC hxi5 hxi6 hxC hoC hin6 hw6 HC2 g2 Hcp4 hYc hs6
    go_upto_region 8 with fail
    rw [Hw6.out]
    clear g2s g2f g5l gl
    have g2 : w6.cell? ⟨G, i * 13 + 1 + 2, none⟩ = some (.slice Y.A Y.n Y.c) := HIn.out.cp.cell hil 3 rfl
    have gl := HIn.out.cp.rd.lt
    go_wp2_with fail
    go_loopw [50] (fun q wr => ∃ (k : Nat) (es : List (Sx Nd)), k ≤ Y.n ∧ q = .int .i64 (k : Int) ∧ Hid (InJ w2 G C (l.set i ⟨x.k, ⟨x.t.name, X, Y⟩, x.v⟩) i X x.v Y.n (x.t.chks.xs.map (·.xs)) es wr)) (fun q _ => Y.n - (intOf q).toNat)
    case atStart => exact ⟨0, _, Nat.zero_le _, rfl, HIn⟩
    case round =>
     clear HIn g2 gl
     obtain ⟨k, es, hk, rfl, hin⟩ := hrel
     have hel : es.length = Y.n := by
      have := congrArg List.length hin.out.xs
      rw [List.length_map, List.length_map, ← HYn.out] at this
      exact this
     by_cases hkl : k < Y.n
     · obtain ⟨e, he⟩ : ∃ e, es[k]? = some e := ⟨_, List.getElem?_eq_getElem (by omega)⟩
       have hem := List.mem_of_getElem? he
       have hA := HYA.out (by omega)
       have hr := hin.out.rd (by omega)
       have g2 : wr.cell? ⟨G, i * 13 + 1 + 2, none⟩ = some (.slice Y.A Y.n Y.c) := hin.out.cp.cell hil 3 rfl
       have g3 : wr.cell? ⟨C, k, none⟩ = some (.slice e.A e.n e.c) := by have := hr.at' k e he 0 _ rfl; rwa [Nat.mul_one, Nat.add_zero] at this
       have gC := hr.lt
       have gG := hin.out.cp.rd.lt
       have hefew : e.n ≤ 1000 := by
        obtain ⟨q, hq, hqe⟩ := List.mem_map.1 (show e.xs ∈ x.t.chks.xs.map (·.xs) by rw [← hin.out.xs]; exact List.mem_map.2 ⟨e, hem, rfl⟩)
        have h1 := Hfew.out.each q hq
        have h2 := (Hxi4.out.t.each q hq).len
        have h3 := (hin.out.ee e hem).1.len
        have h4 : q.xs = e.xs := hqe
        rw [h4] at h2
        omega
       have HC3 := Lib.hid (clnNd_c e wr.drew ((hin.out.ee e hem).1.after (Below.refl _ _).drew) hefew)
       have hsz := hin.out.sz
       have Hin := Lib.hid hin.out
       have He := Lib.hid he
       have Hem := Lib.hid hem
       have HA' := Lib.hid hA
       have Hel := Lib.hid hel
       have hS : wr.cell? ⟨G, i * 13 + 1 + 2, none⟩ = some (.slice (some ⟨C, 0, none⟩) Y.n Y.c) := by rw [← hA]; exact g2
       have HFr : Hid (∀ u, Below wr.heap.size wr u → u.cell? ⟨G, i * 13 + 1 + 2, none⟩ = some (.slice (some ⟨C, 0, none⟩) Y.n Y.c)) := Lib.hid fun u hu => (hu.cell (p := ⟨G, i * 13 + 1 + 2, none⟩) gG).trans hS
       have hgk : (k : Int) < Y.n := by omega
       rw [hA]
       clear g2 hA hr hem he hefew hel hin
       go_upto_region 11 with fail
       have HInv : Hid (Int.le 0 0) := Lib.hid (Int.le_refl 0)
       go_region_held3 (fun u => u.cell? ⟨G, i * 13 + 1 + 2, none⟩ = some (.slice (some ⟨C, 0, none⟩) Y.n Y.c)) (first | exact HFr.out _ HbS.out | exact (World.cell?_setCell_other _ _ _ _ (by intro e; simp only [Addr.mk.injEq] at e; exact HCs.out.2 e.1)).trans (HFr.out _ HbS.out) | go_keep)
        (first
          | (go_at_call 44
             refine HC3.out.mono ?_
             rintro e8 w8 ⟨v3, rfl, hv3, hb8⟩
             obtain ⟨E', hE1, hE2, hE3, _, _, hE6, _⟩ := hv3.sx9 ndOk9.len
             subst hE1
             have hb8' : Below wr.heap.size wr w8 := ((Below.refl wr.heap.size wr).drew).trans hb8
             have HbS := Lib.hid hb8'
             have hr8 := (Hin.out.rd (by omega)).after hb8'
             have q3 : w8.cell? ⟨C, k, none⟩ = some (.slice e.A e.n e.c) := by have := hr8.at' k e He.out 0 _ rfl; rwa [Nat.mul_one, Nat.add_zero] at this
             have q3f : w8.frozen? ⟨C, k, none⟩ = false := hr8.thaw k
             have ql := hr8.lt
             have HE := Lib.hid (And.intro hE2 (And.intro hE3 hE6))
             clear hv3 hb8 hE2 hE3 hE6 hb8' hr8))
       have hE := HE.out
       have hlt8 : wr.heap.size ≤ w8.heap.size := HbS.out.size
       have hEG : ApX E' G := hE.2.2.ap (show G < wr.drew.heap.size from gG)
       have hEC : ApX E' C := hE.2.2.ap (show C < wr.drew.heap.size from gC)
       have hj8 := Hin.out
       have hnew : InJ w2 G C (l.set i ⟨x.k, ⟨x.t.name, X, Y⟩, x.v⟩) i X x.v Y.n (x.t.chks.xs.map (·.xs)) (es.set k E') (w8.setCell ⟨C, k, none⟩ (.slice E'.A E'.n E'.c)) := by
        refine ⟨(hj8.cp.after HbS.out).other HC0.out HCs.out.2 HoC.out _ _, (hj8.X.after HbS.out).setAt HXC.out.1 _ _, ?_, fun _ => ((hj8.rd (by omega)).after HbS.out).put1 (fun _ => rfl) He.out rfl, fun q hq => ?_, ?_, ?_⟩
        · have hv8 := hj8.V.after HbS.out
          exact ⟨hv8.whr.setAt HXC.out.2.whr _ _, hv8.pick.setAt HXC.out.2.pick _ _, hv8.aggs.setAt HXC.out.2.aggs _ _⟩
        · rcases List.mem_or_eq_of_mem_set hq with hq | rfl
          · obtain ⟨a1, a2, a3⟩ := hj8.ee q hq
            exact ⟨(a1.after HbS.out).setAt a3 _ _, a2, a3⟩
          · exact ⟨hE.1.setAt hEC _ _, hEG, hEC⟩
        · rw [List.map_set, hE.2.1, ← hj8.xs]
          have h2 : (es.map (·.xs))[k]? = some e.xs := by rw [List.getElem?_map, He.out]; rfl
          have h3 := (List.getElem?_eq_some_iff.1 h2).2
          rw [← h3]
          exact List.set_getElem_self _
        · have := hj8.sz; simp [World.setCell]; omega
       have Hnew := Lib.hid hnew
       clear hE hlt8 hEG hEC hj8 hnew q3 q3f ql g3 gC gG hS
       go_wp2
       go_roundw
       case rel => exact ⟨k + 1, _, by omega, by go_num, Hnew⟩
       case measure => simp [intOf]; omega
     · obtain rfl : k = Y.n := by omega
       have hj8 := hin.out
       have hYi : (⟨Y.A, Y.n, Y.c, es⟩ : Sx (Sx Nd)).In wr 1 rdX := by
        refine ⟨hel, hYm, ?_⟩
        by_cases h0 : 0 < Y.n
        · rw [HYA.out h0]; exact (hj8.rd h0).slG
        · left; exact List.eq_nil_of_length_eq_zero (show es.length = 0 by omega)
       have hYG : ApX (⟨Y.A, Y.n, Y.c, es⟩ : Sx (Sx Nd)) G := fun h0 q hq => by
        have : 0 < Y.n := by rw [← hel]; exact List.length_pos_iff.2 h0
        simp only [HYA.out this] at hq
        simp at hq
        have := HCs.out.2
        omega
       have HPa : Hid (∀ u u', (X.In u 6 rdCl ∧ (⟨Y.A, Y.n, Y.c, es⟩ : Sx (Sx Nd)).In u 1 rdX ∧ (∀ e ∈ es, e.In u 5 rdN) ∧ x.v.whr.In u 5 rdN ∧ x.v.pick.In u 1 rdI ∧ x.v.aggs.In u 2 rdAg) → Below u.heap.size u u' → (X.In u' 6 rdCl ∧ (⟨Y.A, Y.n, Y.c, es⟩ : Sx (Sx Nd)).In u' 1 rdX ∧ (∀ e ∈ es, e.In u' 5 rdN) ∧ x.v.whr.In u' 5 rdN ∧ x.v.pick.In u' 1 rdI ∧ x.v.aggs.In u' 2 rdAg)) := Lib.hid fun u u' ⟨h1, h2, h3, h4, h5, h6⟩ hb => ⟨h1.after hb, h2.after hb, fun e he => (h3 e he).after hb, h4.after hb, h5.after hb, h6.after hb⟩
       have HPs : Hid (∀ u j w', (X.In u 6 rdCl ∧ (⟨Y.A, Y.n, Y.c, es⟩ : Sx (Sx Nd)).In u 1 rdX ∧ (∀ e ∈ es, e.In u 5 rdN) ∧ x.v.whr.In u 5 rdN ∧ x.v.pick.In u 1 rdI ∧ x.v.aggs.In u 2 rdAg) → (X.In (u.setCell ⟨G, j, none⟩ w') 6 rdCl ∧ (⟨Y.A, Y.n, Y.c, es⟩ : Sx (Sx Nd)).In (u.setCell ⟨G, j, none⟩ w') 1 rdX ∧ (∀ e ∈ es, e.In (u.setCell ⟨G, j, none⟩ w') 5 rdN) ∧ x.v.whr.In (u.setCell ⟨G, j, none⟩ w') 5 rdN ∧ x.v.pick.In (u.setCell ⟨G, j, none⟩ w') 1 rdI ∧ x.v.aggs.In (u.setCell ⟨G, j, none⟩ w') 2 rdAg)) := Lib.hid fun u j w' ⟨h1, h2, h3, h4, h5, h6⟩ => ⟨h1.setAt HX.out.2.1 _ _, h2.setAt hYG _ _, fun e he => (h3 e he).setAt (hj8.ee e he).2.1 _ _, h4.setAt Hxa.out.whr _ _, h5.setAt Hxa.out.pick _ _, h6.setAt Hxa.out.aggs _ _⟩
       have HP0 : Hid (X.In wr 6 rdCl ∧ (⟨Y.A, Y.n, Y.c, es⟩ : Sx (Sx Nd)).In wr 1 rdX ∧ (∀ e ∈ es, e.In wr 5 rdN) ∧ x.v.whr.In wr 5 rdN ∧ x.v.pick.In wr 1 rdI ∧ x.v.aggs.In wr 2 rdAg) := Lib.hid ⟨hj8.X, hYi, fun e he => (hj8.ee e he).1, hj8.V.whr, hj8.V.pick, hj8.V.aggs⟩
       have Hcpi := Lib.hid hj8.cp
       have HeG : Hid (∀ e ∈ es, ApX e G) := Lib.hid fun e he => (hj8.ee e he).2.1
       have Hexs : Hid (es.map (·.xs) = x.t.chks.xs.map (·.xs)) := Lib.hid hj8.xs
       have HYG := Lib.hid hYG
       clear hj8 hYi hYG hin hel hk hkl
       have g2 : wr.cell? ⟨G, i * 13 + 4 + 5, none⟩ = some (.slice x.v.whr.A x.v.whr.n x.v.whr.c) := Hcpi.out.cell hil 9 rfl
       have gl := Hcpi.out.rd.lt
       have HC13 := Lib.hid (clnNd_c x.v.whr wr HP0.out.2.2.2.1 Hfew.out.whr)
       go_wp2_with fail
       refine HC13.out.mono ?_
       rintro e u1 ⟨v13, rfl, hv13, hb13⟩
       obtain ⟨Wh, hV1, hV2, hV3, _, _, hV6, _⟩ := hv13.sx9 ndOk9.len
       subst hV1
       have hcp13 := Hcpi.out.after hb13
       have hsz13 : wr.heap.size ≤ u1.heap.size := hb13.size
       obtain ⟨u2, hw13⟩ : ∃ u2, u1.setCell ⟨G, i * 13 + 4 + 5, none⟩ (.slice Wh.A Wh.n Wh.c) = u2 := ⟨_, rfl⟩
       have hcpn13 : CpH w2 G (l.set i ⟨x.k, ⟨x.t.name, X, ⟨Y.A, Y.n, Y.c, es⟩⟩, ⟨x.v.name, x.v.frm, x.v.wth, x.v.on0, x.v.on1, Wh, x.v.pick, x.v.grp, x.v.aggs⟩⟩) i u2 := by rw [← hw13]; exact hcp13.put2 (j := 9) hil _ (by decide) rfl
       have hVG : ApX Wh G := hV6.ap gl
       have hVi : Wh.In u2 5 rdN := by rw [← hw13]; exact hV2.setAt hVG _ _
       have hpn13 := HPs.out u1 (i * 13 + 4 + 5) (.slice Wh.A Wh.n Wh.c) (HPa.out _ _ HP0.out hb13)
       rw [hw13] at hpn13
       have g2s : u1.cell? ⟨G, i * 13 + 4 + 5, none⟩ = some (.slice x.v.whr.A x.v.whr.n x.v.whr.c) := hcp13.cell hil 9 rfl
       have g2f : u1.frozen? ⟨G, i * 13 + 4 + 5, none⟩ = false := hcp13.rd.thaw _
       have g5l := hcp13.rd.lt
       have HcpW := Lib.hid hcpn13
       have HP1 := Lib.hid hpn13
       have HV13 := Lib.hid (And.intro hVi (And.intro hVG hV3))
       have Hw13 := Lib.hid hw13
       have Hb13 : Hid (Below wr.heap.size wr u1) := Lib.hid hb13
       clear hv13 hb13 hV2 hV3 hV6 hcp13 hcpn13 hVG hVi hpn13 hw13 HC13 g2 gl hsz13
       go_upto_region 14 with fail
       rw [Hw13.out]
       clear g2s g2f g5l
       have g2 : u2.cell? ⟨G, i * 13 + 4 + 6, none⟩ = some (.slice x.v.pick.A x.v.pick.n x.v.pick.c) := HcpW.out.cell hil 10 rfl
       have gl := HcpW.out.rd.lt
       have HC14 := Lib.hid (clnI_c x.v.pick u2 HP1.out.2.2.2.2.1 Hfew.out.pick)
       go_wp2_with fail
       refine HC14.out.mono ?_
       rintro e u3 ⟨v14, rfl, hv14, hb14⟩
       obtain ⟨Pk, hV1, hV2, hV3, _, _, hV6, _⟩ := hv14.sx9 iOk.len
       subst hV1
       have hcp14 := HcpW.out.after hb14
       have hsz14 : u2.heap.size ≤ u3.heap.size := hb14.size
       obtain ⟨u4, hw14⟩ : ∃ u4, u3.setCell ⟨G, i * 13 + 4 + 6, none⟩ (.slice Pk.A Pk.n Pk.c) = u4 := ⟨_, rfl⟩
       have hcpn14 : CpH w2 G (l.set i ⟨x.k, ⟨x.t.name, X, ⟨Y.A, Y.n, Y.c, es⟩⟩, ⟨x.v.name, x.v.frm, x.v.wth, x.v.on0, x.v.on1, Wh, Pk, x.v.grp, x.v.aggs⟩⟩) i u4 := by rw [← hw14]; exact hcp14.put2 (j := 10) hil _ (by decide) rfl
       have hVG : ApX Pk G := hV6.ap gl
       have hVi : Pk.In u4 1 rdI := by rw [← hw14]; exact hV2.setAt hVG _ _
       have hpn14 := HPs.out u3 (i * 13 + 4 + 6) (.slice Pk.A Pk.n Pk.c) (HPa.out _ _ HP1.out hb14)
       rw [hw14] at hpn14
       have g2s : u3.cell? ⟨G, i * 13 + 4 + 6, none⟩ = some (.slice x.v.pick.A x.v.pick.n x.v.pick.c) := hcp14.cell hil 10 rfl
       have g2f : u3.frozen? ⟨G, i * 13 + 4 + 6, none⟩ = false := hcp14.rd.thaw _
       have g5l := hcp14.rd.lt
       have HcpP := Lib.hid hcpn14
       have HP2 := Lib.hid hpn14
       have HV14 := Lib.hid (And.intro hVi (And.intro hVG hV3))
       have Hw14 := Lib.hid hw14
       have Hb14 : Hid (Below u2.heap.size u2 u3) := Lib.hid hb14
       clear hv14 hb14 hV2 hV3 hV6 hcp14 hcpn14 hVG hVi hpn14 hw14 HC14 g2 gl hsz14
       go_upto_region 15 with fail
       rw [Hw14.out]
       clear g2s g2f g5l
       have g2 : u4.cell? ⟨G, i * 13 + 4 + 8, none⟩ = some (.slice x.v.aggs.A x.v.aggs.n x.v.aggs.c) := HcpP.out.cell hil 12 rfl
       have gl := HcpP.out.rd.lt
       have HC15 := Lib.hid (clnAg_c x.v.aggs u4 HP2.out.2.2.2.2.2 Hfew.out.aggs)
       go_wp2_with fail
       refine HC15.out.mono ?_
       rintro e u5 ⟨v15, rfl, hv15, hb15⟩
       obtain ⟨Gg, hV1, hV2, hV3, _, _, hV6, _⟩ := hv15.sx9 agOk9.len
       subst hV1
       have hcp15 := HcpP.out.after hb15
       have hsz15 : u4.heap.size ≤ u5.heap.size := hb15.size
       obtain ⟨u6, hw15⟩ : ∃ u6, u5.setCell ⟨G, i * 13 + 4 + 8, none⟩ (.slice Gg.A Gg.n Gg.c) = u6 := ⟨_, rfl⟩
       have hcpn15 : CpH w2 G (l.set i ⟨x.k, ⟨x.t.name, X, ⟨Y.A, Y.n, Y.c, es⟩⟩, ⟨x.v.name, x.v.frm, x.v.wth, x.v.on0, x.v.on1, Wh, Pk, x.v.grp, Gg⟩⟩) i u6 := by rw [← hw15]; exact hcp15.put2 (j := 12) hil _ (by decide) rfl
       have hVG : ApX Gg G := hV6.ap gl
       have hVi : Gg.In u6 2 rdAg := by rw [← hw15]; exact hV2.setAt hVG _ _
       have hpn15 := HPs.out u5 (i * 13 + 4 + 8) (.slice Gg.A Gg.n Gg.c) (HPa.out _ _ HP2.out hb15)
       rw [hw15] at hpn15
       have g2s : u5.cell? ⟨G, i * 13 + 4 + 8, none⟩ = some (.slice x.v.aggs.A x.v.aggs.n x.v.aggs.c) := hcp15.cell hil 12 rfl
       have g2f : u5.frozen? ⟨G, i * 13 + 4 + 8, none⟩ = false := hcp15.rd.thaw _
       have g5l := hcp15.rd.lt
       have HcpA := Lib.hid hcpn15
       have HP3 := Lib.hid hpn15
       have HV15 := Lib.hid (And.intro hVi (And.intro hVG hV3))
       have Hw15 := Lib.hid hw15
       have Hb15 : Hid (Below u4.heap.size u4 u5) := Lib.hid hb15
       clear hv15 hb15 hV2 hV3 hV6 hcp15 hcpn15 hVG hVi hpn15 hw15 HC15 g2 gl hsz15
       go_upto_region 16 with fail
       rw [Hw15.out]
       clear g2s g2f g5l
       have hWh : Wh.In u6 5 rdN := by
        have h1 := (HV13.out.1.after Hb14.out).setAt HV13.out.2.1 (i * 13 + 4 + 6) (.slice Pk.A Pk.n Pk.c)
        rw [Hw14.out] at h1
        have h2 := (h1.after Hb15.out).setAt HV13.out.2.1 (i * 13 + 4 + 8) (.slice Gg.A Gg.n Gg.c)
        rw [Hw15.out] at h2
        exact h2
       have hPk : Pk.In u6 1 rdI := by
        have h2 := (HV14.out.1.after Hb15.out).setAt HV14.out.2.1 (i * 13 + 4 + 8) (.slice Gg.A Gg.n Gg.c)
        rw [Hw15.out] at h2
        exact h2
       obtain ⟨p1, p2, p3, _, _, _⟩ := HP3.out
       have hxin : (⟨x.k, ⟨x.t.name, X, ⟨Y.A, Y.n, Y.c, es⟩⟩, ⟨x.v.name, x.v.frm, x.v.wth, x.v.on0, x.v.on1, Wh, Pk, x.v.grp, Gg⟩⟩ : Dm).In u6 := ⟨⟨p1, p2, p3⟩, ⟨hWh, hPk, HV15.out.1⟩⟩
       have hxap : ApD ⟨x.k, ⟨x.t.name, X, ⟨Y.A, Y.n, Y.c, es⟩⟩, ⟨x.v.name, x.v.frm, x.v.wth, x.v.on0, x.v.on1, Wh, Pk, x.v.grp, Gg⟩⟩ G := ⟨HX.out.2.1, HYG.out, HeG.out, HV13.out.2.1, HV14.out.2.1, HV15.out.2.1⟩
       have hxdf : (⟨x.k, ⟨x.t.name, X, ⟨Y.A, Y.n, Y.c, es⟩⟩, ⟨x.v.name, x.v.frm, x.v.wth, x.v.on0, x.v.on1, Wh, Pk, x.v.grp, Gg⟩⟩ : Dm).df = x.df := by
        unfold Dm.df Tm.tb Vm.vw
        simp only [HX.out.2.2.1, Hexs.out, HV13.out.2.2, HV14.out.2.2, HV15.out.2.2]
       have hnew : CpL w2 G (xs.map (·.df) ++ [d.df]) (i + 1) (l.set i ⟨x.k, ⟨x.t.name, X, ⟨Y.A, Y.n, Y.c, es⟩⟩, ⟨x.v.name, x.v.frm, x.v.wth, x.v.on0, x.v.on1, Wh, Pk, x.v.grp, Gg⟩⟩) u6 := by
        refine ⟨HcpA.out.rd, HcpA.out.ap, ?_, fun m y hy => ?_, fun m y hy hm => ?_⟩
        · rw [List.map_set, hxdf, ← HJ.out.df]
          have h2 : (l.map (·.df))[i]? = some x.df := by rw [List.getElem?_map, Hx.out]; rfl
          have h3 := (List.getElem?_eq_some_iff.1 h2).2
          rw [← h3]
          exact List.set_getElem_self _
        · by_cases hm : m = i
          · subst hm
            rw [List.getElem?_set_self hil] at hy
            obtain rfl := Option.some.inj hy
            exact ⟨hxin, hxap⟩
          · exact HcpA.out.each m y hy hm
        · by_cases hmi : m = i
          · subst hmi
            rw [List.getElem?_set_self hil] at hy
            obtain rfl := Option.some.inj hy
            exact HX.out.2.2.2
          · rw [List.getElem?_set_ne (fun e => hmi e.symm)] at hy
            exact HJ.out.cap m y hy (by omega)
       have Hnew := Lib.hid hnew
       clear hWh hPk p1 p2 p3 hxin hxap hxdf hnew
       go_wp2
       go_roundw
       case rel => exact ⟨i + 1, _, by omega, by go_num, Hnew⟩
       case measure => simp [intOf]; omega
  · obtain rfl : i = N := by omega
    have hjo := hj.out
    have hfin : S (.returned (.slice (some ⟨G, 0, none⟩) i cp)) wr := by
     rw [← HS.out]
     refine ⟨?_, some ⟨G, 0, none⟩, i, cp, l, rfl, Hcaps.out.1, Hcaps.out.2, ⟨hll, Nat.le_trans Hcaps.out.1 Hcaps.out.2, hjo.rd.slG, fun y hy => ?_⟩, hjo.df, fun z hz => ?_⟩
     · have hb := HB2.out
       have hap := hjo.ap
       exact ⟨hap.os.trans hb.os, hap.tape.trans hb.tape, hap.output.trans hb.output, Nat.le_trans hb.size hap.size, fun q hq => (hap.other q (Nat.lt_of_lt_of_le hq hb.size) (by have := HGw.out; omega)).trans (hb.block q hq)⟩
     · obtain ⟨m, hm⟩ := List.getElem?_of_mem hy
       exact (hjo.each m y hm).1
     · obtain ⟨m, hm⟩ := List.getElem?_of_mem hz
       exact hjo.cap m z hm (by have := (List.getElem?_eq_some_iff.1 hm).1; omega)
    have HF := Lib.hid hfin
    clear hjo hfin hj hll
    go_wp2
    exact HF.out
end Go.Proofs.YtamekagminbejaaGreatDoor
namespace Go.Proofs.YtamekagminbejaaGreatDoor
open Go Go.RowKit
set_option maxRecDepth 100000
def AddS (c : List Df) (d : Df) (w : World) (e : Ending) (w' : World) : Prop := Below w.heap.size w w' ∧
 ((mayC okD typeR c = true ∧ wrongE okD typeR (envF [] c) d = 0 ∧ ∃ (A : Option Addr) (n cp : Nat) (zs : List Dm), e = .returned (.tuple #[.slice A n cp, .int .i64 0]) ∧ n ≤ cp ∧ cp ≤ maxLen ∧ CtL w' A n zs ∧ zs.map (·.df) = c ++ [d] ∧ ∀ z ∈ zs, z.t.cols.n ≤ z.t.cols.c ∧ z.t.cols.c ≤ maxLen) ∨
  (∃ m : Int, m ≠ 0 ∧ e = .returned (.tuple #[.slice none 0 0, .int .i64 m]) ∧ ((mayC okD typeR c = false ∧ m = 1) ∨ (mayC okD typeR c = true ∧ m = wrongE okD typeR (envF [] c) d))))
theorem mayC_all {c : List Df} (h : mayC okD typeR c = true) : ∀ d ∈ c, MayD d := fun d hd => by
 obtain ⟨k, hk⟩ := List.getElem?_of_mem hd
 exact okD_may _ (wrong_fine.1 (may_at h hk)).ok
set_option maxHeartbeats 16000000 in
theorem add9_c (d : Dm) (A : Option Addr) (n cp : Nat) (xs : List Dm) (w : World) (hC : CtL w A n xs) (hA : ∀ x ∈ xs, x.Ask) (hd : d.In w) (hD : d.Ask) (hG : Gw w.heap.size w) :
 Calls Tryz.prog 15 #[.slice A n cp, d.w] w (AddS (xs.map (·.df)) d.df w) := by
 obtain ⟨S, hS⟩ : ∃ S, AddS (xs.map (·.df)) d.df w = S := ⟨_, rfl⟩
 rw [hS]
 have HS := Lib.hid hS
 obtain ⟨w0, hw0⟩ : ∃ w0, w.alloc (.cells d.cl.toArray 38) = w0 := ⟨_, rfl⟩
 have hB0 : Below w.heap.size w w0 := by rw [← hw0]; exact below_one _ _
 have hK : BkD w0 w.heap.size d := by rw [← hw0]; exact Bk.new _ _ _
 have HW0 : Hid (w.alloc (.cells #[.int .i64 d.k, .string d.t.name, .slice d.t.cols.A d.t.cols.n d.t.cols.c, .slice d.t.chks.A d.t.chks.n d.t.chks.c, .string d.v.name, .string d.v.frm, .string d.v.wth, .int .i64 d.v.on0, .int .i64 d.v.on1, .slice d.v.whr.A d.v.whr.n d.v.whr.c, .slice d.v.pick.A d.v.pick.n d.v.pick.c, .bool d.v.grp, .slice d.v.aggs.A d.v.aggs.n d.v.aggs.c] 38) = w0) := Lib.hid hw0
 have HB0 := Lib.hid hB0
 have HK := Lib.hid hK
 have HC := Lib.hid hC
 have Hd := Lib.hid hd
 have HD := Lib.hid hD
 have HG := Lib.hid hG
 have HSr := Lib.hid (sources9_c A n cp xs w0 (hC.after hB0) hA ((hG.below hB0).up hB0.size))
 obtain ⟨c0, c1, c2, c3, c4, c5, c6, c7, c8, c9, c10, c11, c12, hlt⟩ := hK.all
 clear hS hw0 hB0 hK hC hA hd hD hG
 go_enter Tryz.func15, Tryz.ntmps15
 go_upto_region 1 with fail
 rw [HW0.out]
 go_wp2_with fail
 refine HSr.out.mono ?_
 intro e w1 h
 obtain ⟨hb1, h⟩ := h
 have HB1 := Lib.hid (below_via HB0.out hb1)
 have HK1 : Hid (BkD w1 w.heap.size d) := Lib.hid (Bk.after HK.out hb1 HK.out.lt)
 clear hb1 HSr c0 c1 c2 c3 c4 c5 c6 c7 c8 c9 c10 c11 c12 hlt
 rcases h with ⟨hq, B, m, c, ys, rfl, hL, hye⟩ | ⟨hq, rfl⟩
 case inr =>
  have HF : Hid (S (.returned (.tuple #[.slice none 0 0, .int .i64 1])) w1) := Lib.hid (by
   rw [← HS.out]
   exact ⟨HB1.out, .inr ⟨1, by decide, rfl, .inl ⟨hq, rfl⟩⟩⟩)
  clear hq
  go_wp2
  exact HF.out
 case inl =>
  have hml : m ≤ 20 := by
   have h1 := congrArg List.length hye
   rw [envF_len] at h1
   have h2 := may_len hq
   unfold enL at h1
   rw [List.length_map, hL.len] at h1
   simp only [List.length_nil, Nat.zero_add] at h1
   omega
  have hS1 := source9_c d B m c ys w1 hL hml (by rw [hye]; exact env_good okD_may hq) (Hd.out.after HB1.out) HD.out ((HG.out.below HB1.out).up HB1.out.size)
  rw [hye] at hS1
  have HS1 := Lib.hid hS1
  have Hq := Lib.hid hq
  obtain ⟨c0, c1, c2, c3, c4, c5, c6, c7, c8, c9, c10, c11, c12, hlt⟩ := HK1.out.all
  clear hS1 hq hye hL
  go_wp2_with fail
  refine HS1.out.mono ?_
  intro e w2 hs
  obtain ⟨hb2, hs⟩ := hs
  have HB2 := Lib.hid (below_via HB1.out hb2)
  have HB12 := Lib.hid hb2
  clear hb2 HS1 c0 c1 c2 c3 c4 c5 c6 c7 c8 c9 c10 c11 c12 hlt
  obtain ⟨W, hW⟩ : ∃ W, wrongE okD typeR (envF [] (xs.map (·.df))) d.df = W := ⟨_, rfl⟩
  by_cases h0 : W = 0
  · have ho : srcO (envF [] (xs.map (·.df))) d.df = .inr (enD (envF [] (xs.map (·.df))) d.df) := by unfold srcO; rw [hW, if_pos h0]
    rw [ho] at hs
    obtain ⟨y, rfl, _⟩ := hs
    obtain ⟨w3, hw3⟩ : ∃ w3, w2.alloc (.cells #[.string y.name, .bool y.tb, .slice y.ks.A y.ks.n y.ks.c, .slice y.ns.A y.ns.n y.ns.c] 64) = w3 := ⟨_, rfl⟩
    have hb3 : Below w2.heap.size w2 w3 := by rw [← hw3]; exact below_one _ _
    have hb3w := below_via HB2.out hb3
    have hK3 : BkD w3 w.heap.size d := Bk.after HK1.out (below_via HB12.out hb3) HK1.out.lt
    have hmd : ∀ x ∈ xs ++ [d], MayD x.df := fun x hx => by
     rcases List.mem_append.1 hx with hx | hx
     · exact mayC_all Hq.out x.df (List.mem_map.2 ⟨x, hx, rfl⟩)
     · obtain rfl := List.mem_singleton.1 hx
       have hf := wrong_fine.1 (hW.trans h0)
       exact okD_may _ hf.ok
    have hn20 : n ≤ 20 := by have := may_len Hq.out; rw [List.length_map, HC.out.len] at this; exact this
    have HCp := Lib.hid (copy9_c d A n cp xs w3 (HC.out.after hb3w) (Hd.out.after hb3w) hmd hn20)
    have HB3 := Lib.hid hb3w
    have HK3 := Lib.hid hK3
    have Hw3 := Lib.hid hw3
    have HW' := Lib.hid (hW.trans h0)
    clear hw3 hb3 hb3w hK3 hmd ho hW h0
    go_upto_region 5 with fail
    rw [Hw3.out]
    obtain ⟨c0, c1, c2, c3, c4, c5, c6, c7, c8, c9, c10, c11, c12, hlt⟩ := HK3.out.all
    go_wp2_with fail
    refine HCp.out.mono ?_
    intro e w4 h
    obtain ⟨hb4, A', n', cp', zs, rfl, z1, z2, z3, z4, z5⟩ := h
    have HF : Hid (S (.returned (.tuple #[.slice A' n' cp', .int .i64 0])) w4) := Lib.hid (by
     rw [← HS.out]
     exact ⟨below_via HB3.out hb4, .inl ⟨Hq.out, HW'.out, A', n', cp', zs, rfl, z1, z2, z3, z4, z5⟩⟩)
    clear hb4 z1 z2 z3 z4 z5 c0 c1 c2 c3 c4 c5 c6 c7 c8 c9 c10 c11 c12 hlt
    go_wp2
    exact HF.out
  · have ho : srcO (envF [] (xs.map (·.df))) d.df = .inl W := srcO_bad hW h0
    rw [ho] at hs
    have hs : e = .returned (.tuple #[sc0.w, .int .i64 W]) := hs
    subst hs
    have HF : Hid (S (.returned (.tuple #[.slice none 0 0, .int .i64 W])) (w2.alloc (.cells #[.string emp, .bool false, .slice none 0 0, .slice none 0 0] 64))) := Lib.hid (by
     rw [← HS.out]
     exact ⟨below_al HB2.out _, .inr ⟨W, h0, rfl, .inr ⟨Hq.out, hW.symm⟩⟩⟩)
    have h0' : (W != 0) = true := by simpa using h0
    clear ho hW h0
    go_wp2
    exact HF.out
attribute [local go_sem ↓] Go.wp_at_zero Go.wp_at_succ
set_option maxHeartbeats 2000000 in
theorem sameBools_c (A B : Option Addr) (n m c d : Nat) (xs ys : List Bool) (w : World) (hn : xs.length = n) (hm : ys.length = m) (hn1 : n ≤ maxLen) (hm1 : m ≤ maxLen) (hs : SlG w A 1 rdB xs) (ks : SlG w B 1 rdB ys) :
 Calls Tryz.prog 18 #[.slice A n c, .slice B m d] w fun e w' => e = .returned (.bool (decide (xs = ys))) ∧ Below w.heap.size w w' := by
 unfold maxLen at hn1 hm1
 obtain ⟨R, hR⟩ : ∃ R, decide (xs = ys) = R := ⟨_, rfl⟩
 rw [hR]
 have HR := Lib.hid hR
 have Hn := Lib.hid hn
 have Hm := Lib.hid hm
 have Hs := Lib.hid hs
 have Ks := Lib.hid ks
 clear hn hm hs ks hR
 by_cases hnm : n = m
 case neg =>
  have hRf : false = R := by
   rw [← HR.out]
   exact (decide_eq_false (fun e => hnm (by rw [← Hn.out, ← Hm.out, e]))).symm
  subst hRf
  clear HR
  have hne : ((n : Int) != (m : Int)) = true := by simpa using (by omega : ¬ (n : Int) = m)
  go_enter Tryz.func18, Tryz.ntmps18
  go_wp2
  go_ret
  exact ⟨rfl, Below.refl _ _⟩
 subst hnm
 go_enter Tryz.func18, Tryz.ntmps18
 go_wp2_with fail
 go_loopw [5] (fun i wr => ∃ k : Nat, k ≤ n ∧ i = .int .i64 k ∧ Hid (Below w.heap.size w wr) ∧ Hid (decide (xs.drop k = ys.drop k) = R)) (fun i _ => n - (intOf i).toNat)
 case atStart => exact ⟨0, Nat.zero_le _, rfl, Below.refl _ _, HR⟩
 case round =>
  obtain ⟨k, hk, rfl, hb, hinv⟩ := hrel
  clear HR
  by_cases hlt : k < n
  · obtain ⟨b, off, x, rfl, hblt, hx, hc⟩ := Hs.out.atS (by rw [Hn.out]; exact hlt)
    obtain ⟨b', off', y, rfl, hblt', hy, hc'⟩ := Ks.out.atS (by rw [Hm.out]; exact hlt)
    have d0 := (hb.out.cell (p := ⟨b, off + k, none⟩) hblt).trans (by have := hc 0 _ rfl; simpa using this)
    have e0 := (hb.out.cell (p := ⟨b', off' + k, none⟩) hblt').trans (by have := hc' 0 _ rfl; simpa using this)
    have l1 : b < wr.heap.size := Nat.lt_of_lt_of_le hblt hb.out.size
    have l2 : b' < wr.heap.size := Nat.lt_of_lt_of_le hblt' hb.out.size
    have hst : (decide (x = y) && decide (xs.drop (k + 1) = ys.drop (k + 1))) = R := by
     rw [← hinv.out, drop_at hx, drop_at hy, Bool.eq_iff_iff]
     simp
    have Hst := Lib.hid hst
    clear hinv hx hy hc hc' hblt hblt' hst
    go_wp2_with fail
    go_region
    have hE : (x == y) = decide (x = y) := by cases x <;> cases y <;> rfl
    rw [hE]
    have Hb2 := Lib.hid hb.out.drew
    clear hE
    cases hxy : decide (x = y)
    · have hRf : false = R := by have := Hst.out; rw [hxy, Bool.false_and] at this; exact this
      subst hRf
      clear Hst hxy
      go_wp2
      go_ret
      exact ⟨rfl, Hb2.out⟩
    · have hst : decide (xs.drop (k + 1) = ys.drop (k + 1)) = R := by have := Hst.out; rw [hxy, Bool.true_and] at this; exact this
      have Hst2 := Lib.hid hst
      clear Hst hxy hst
      go_wp2
      go_roundw
      case rel => exact ⟨k + 1, by omega, by go_num, Hb2, Hst2⟩
      case measure => simp [intOf]; omega
  · obtain rfl : k = n := by omega
    have hRt : true = R := by
     have := hinv.out
     rw [show xs.drop k = [] from List.drop_eq_nil_of_le (by rw [Hn.out]; omega), show ys.drop k = [] from List.drop_eq_nil_of_le (by rw [Hm.out]; omega)] at this
     exact this
    subst hRt
    clear hinv
    go_wp2
    go_ret
    exact ⟨rfl, hb.out⟩
end Go.Proofs.YtamekagminbejaaGreatDoor
namespace Go.Proofs.YtamekagminbejaaGreatDoor
open Go Go.RowKit
set_option maxRecDepth 100000
attribute [local go_sem ↓] Go.wp_at_zero Go.wp_at_succ
end Go.Proofs.YtamekagminbejaaGreatDoor
namespace Go.Proofs.YtamekagminbejaaGreatDoor
open Go Go.RowKit
set_option maxRecDepth 100000
attribute [local go_sem ↓] Go.wp_at_zero Go.wp_at_succ
def MkS (d : Df) (w : World) (e : Ending) (w' : World) : Prop := ∃ x : Dm, e = .returned x.w ∧ x.In w' ∧ x.df = d ∧ x.t.cols.n ≤ x.t.cols.c ∧ x.t.cols.c ≤ 2 ∧ Below w.heap.size w w'
set_option maxHeartbeats 4000000 in
theorem mkt_c (nm r : ByteArray) (w : World) : Calls Tryz.prog 19 #[.string nm, .string r] w (MkS (tabR nm r) w) := by
 obtain ⟨S, hS⟩ : ∃ S, MkS (tabR nm r) w = S := ⟨_, rfl⟩
 rw [hS]
 have HS := Lib.hid hS
 clear hS
 go_enter Tryz.func19, Tryz.ntmps19
 go_wp2
 obtain ⟨x, hx⟩ : ∃ x : Dm, (⟨0, ⟨nm, ⟨some ⟨w.heap.size + 1, 0, none⟩, 2, 2, [⟨ba [107], 2, false, false, emp, 0⟩, ⟨ba [97], 2, true, false, r, 0⟩]⟩, sx0⟩, ⟨emp, emp, emp, 0, 0, sx0, sx0, false, sx0⟩⟩ : Dm) = x := ⟨_, rfl⟩
 obtain ⟨W1, hW1⟩ : ∃ W1, w.alloc (.cells x.cl.toArray 38) = W1 := ⟨_, rfl⟩
 have hz : W1.heap.size = w.heap.size + 1 := by rw [← hW1]; simp
 have hB1 : Below w.heap.size w W1 := by rw [← hW1]; exact below_one _ _
 have hk : BkD W1 w.heap.size x := by rw [← hW1]; exact Bk.new _ _ _
 obtain ⟨W, hW⟩ : ∃ W, W1.alloc (.cells #[.string (ba [107]), .int .i64 2, .bool false, .bool false, .string emp, .int .i64 0, .string (ba [97]), .int .i64 2, .bool true, .bool false, .string r, .int .i64 0] 41) = W := ⟨_, rfl⟩
 have hk2 : BkD W w.heap.size x := by rw [← hW]; exact Bk.alloc hk _
 have hs : SlG W (some ⟨w.heap.size + 1, 0, none⟩) 6 rdCl [⟨ba [107], 2, false, false, emp, 0⟩, ⟨ba [97], 2, true, false, r, 0⟩] := by rw [← hW]; exact SlG.newAt (rd := rdCl) hz (fun _ => rfl) _ rfl
 have hf : S (.returned x.w) W := by
  rw [← HS.out]
  refine ⟨x, rfl, ?_, ?_, ?_, ?_, ?_⟩
  · rw [← hx]
    exact ⟨⟨⟨rfl, by show (2 : Nat) ≤ maxLen; unfold maxLen; decide, hs⟩, sx0_in _ _ _, fun e he => by cases he⟩, ⟨sx0_in _ _ _, sx0_in _ _ _, sx0_in _ _ _⟩⟩
  · rw [← hx]; rfl
  · rw [← hx]; exact Nat.le_refl _
  · rw [← hx]; exact Nat.le_refl _
  · rw [← hW]; exact below_al hB1 _
 subst hW hW1
 rw [← hx] at hk2 hf
 exact ret_df (b := w.heap.size) Tryz.results19 rfl hk2 rfl hf
set_option maxHeartbeats 4000000 in
theorem mkv_c (nm f : ByteArray) (w : World) : Calls Tryz.prog 20 #[.string nm, .string f] w (MkS (viewF nm f) w) := by
 obtain ⟨S, hS⟩ : ∃ S, MkS (viewF nm f) w = S := ⟨_, rfl⟩
 rw [hS]
 have HS := Lib.hid hS
 clear hS
 go_enter Tryz.func20, Tryz.ntmps20
 go_wp2
 obtain ⟨x, hx⟩ : ∃ x : Dm, (⟨1, ⟨emp, sx0, sx0⟩, ⟨nm, f, emp, 0, 0, sx0, ⟨some ⟨w.heap.size + 1, 0, none⟩, 1, 1, [1]⟩, true, ⟨some ⟨w.heap.size + 2, 0, none⟩, 1, 1, [⟨1, 0⟩]⟩⟩⟩ : Dm) = x := ⟨_, rfl⟩
 obtain ⟨W1, hW1⟩ : ∃ W1, w.alloc (.cells x.cl.toArray 38) = W1 := ⟨_, rfl⟩
 have hz : W1.heap.size = w.heap.size + 1 := by rw [← hW1]; simp
 have hB1 : Below w.heap.size w W1 := by rw [← hW1]; exact below_one _ _
 have hk : BkD W1 w.heap.size x := by rw [← hW1]; exact Bk.new _ _ _
 obtain ⟨W2, hW2⟩ : ∃ W2, W1.alloc (.cells #[.int .i64 1] 3) = W2 := ⟨_, rfl⟩
 have hz2 : W2.heap.size = w.heap.size + 2 := by rw [← hW2]; simp [hz]
 have hs2 : SlG W2 (some ⟨w.heap.size + 1, 0, none⟩) 1 rdI [1] := by rw [← hW2]; exact SlG.newAt (rd := rdI) hz (fun _ => rfl) _ rfl
 obtain ⟨W, hW⟩ : ∃ W, W2.alloc (.cells #[.int .i64 1, .int .i64 0] 73) = W := ⟨_, rfl⟩
 have hk2 : BkD W w.heap.size x := by rw [← hW, ← hW2]; exact Bk.alloc (Bk.alloc hk _) _
 have hs3 : SlG W (some ⟨w.heap.size + 2, 0, none⟩) 2 rdAg [⟨1, 0⟩] := by rw [← hW]; exact SlG.newAt (rd := rdAg) hz2 (fun _ => rfl) _ rfl
 have hs4 : SlG W (some ⟨w.heap.size + 1, 0, none⟩) 1 rdI [1] := by rw [← hW]; exact hs2.alloc _
 have hf : S (.returned x.w) W := by
  rw [← HS.out]
  refine ⟨x, rfl, ?_, ?_, ?_, ?_, ?_⟩
  · rw [← hx]
    exact ⟨⟨sx0_in _ _ _, sx0_in _ _ _, fun e he => by cases he⟩, ⟨sx0_in _ _ _, ⟨rfl, by show (1 : Nat) ≤ maxLen; unfold maxLen; decide, hs4⟩, ⟨rfl, by show (1 : Nat) ≤ maxLen; unfold maxLen; decide, hs3⟩⟩⟩
  · rw [← hx]; rfl
  · rw [← hx]; exact Nat.le_refl _
  · rw [← hx]; exact Nat.zero_le _
  · rw [← hW, ← hW2]; exact below_al (below_al hB1 _) _
 subst hW hW2 hW1
 rw [← hx] at hk2 hf
 exact ret_df (b := w.heap.size) Tryz.results20 rfl hk2 rfl hf
end Go.Proofs.YtamekagminbejaaGreatDoor
namespace Go.Proofs.YtamekagminbejaaGreatDoor
open Go Go.RowKit
set_option maxRecDepth 100000
structure CtA (w : World) (A : Option Addr) (n c : Nat) (ds : List Df) : Prop where
 ex : ∃ xs : List Dm, CtL w A n xs ∧ xs.map (·.df) = ds ∧ ∀ x ∈ xs, x.Ask
 le : n ≤ c
 cm : c ≤ maxLen
theorem CtA.after {w w' : World} {A : Option Addr} {n c : Nat} {ds : List Df} (h : CtA w A n c ds) (hb : Below w.heap.size w w') : CtA w' A n c ds := by
 obtain ⟨⟨xs, h1, h2, h3⟩, h4, h5⟩ := h
 exact ⟨⟨xs, h1.after hb, h2, h3⟩, h4, h5⟩
theorem CtA.len {w : World} {A : Option Addr} {n c : Nat} {ds : List Df} (h : CtA w A n c ds) : ds.length = n := by
 obtain ⟨⟨xs, h1, h2, h3⟩, _, _⟩ := h
 rw [← h2, List.length_map, h1.len]
theorem CtA.tail {w : World} {b off n c : Nat} {ds : List Df} (h : CtA w (some ⟨b, off, none⟩) n c ds) (hn : 1 ≤ n) : CtA w (some ⟨b, off + 13, none⟩) (n - 1) (c - 1) ds.tail := by
 obtain ⟨⟨xs, h1, h2, h3⟩, h4, h5⟩ := h
 refine ⟨⟨xs.tail, ⟨by rw [List.length_tail, h1.len], by have := h1.max; omega, ?_, fun x hx => h1.each x (List.mem_of_mem_tail hx)⟩, by rw [List.map_tail, h2], fun x hx => h3 x (List.mem_of_mem_tail hx)⟩, by omega, by omega⟩
 rcases h1.sl with rfl | ⟨b', off', hA, hlt, h⟩
 · exact .inl rfl
 · obtain ⟨rfl, rfl⟩ : b = b' ∧ off = off' := by
    have := Option.some.inj hA
    exact ⟨congrArg (·.block) this, congrArg (·.off) this⟩
   refine .inr ⟨b, off + 13, rfl, hlt, fun i x hx j u hu => ?_⟩
   rw [List.getElem?_tail] at hx
   have := h (i + 1) x hx j u hu
   rw [show off + 13 + i * 13 + j = off + (i + 1) * 13 + j by omega]
   exact this
theorem CtA.some {w : World} {A : Option Addr} {n c : Nat} {ds : List Df} (h : CtA w A n c ds) (hn : 1 ≤ n) : ∃ b off, A = Option.some ⟨b, off, none⟩ := by
 obtain ⟨⟨xs, h1, h2, h3⟩, h4, h5⟩ := h
 obtain ⟨b, off, x, hA, _⟩ := h1.sl.atS (k := 0) (by rw [h1.len]; omega)
 exact ⟨b, off, hA⟩
theorem cta_nil (w : World) : CtA w none 0 0 [] := ⟨⟨[], ⟨rfl, Nat.zero_le _, .inl rfl, fun x hx => by cases hx⟩, rfl, fun x hx => by cases hx⟩, Nat.le_refl _, Nat.zero_le _⟩
def AddA (ds : List Df) (d : Df) (w : World) (e : Ending) (w' : World) : Prop := Below w.heap.size w w' ∧
 ((mayC okD typeR ds = true ∧ wrongE okD typeR (envF [] ds) d = 0 ∧ ∃ (A : Option Addr) (n c : Nat), e = .returned (.tuple #[.slice A n c, .int .i64 0]) ∧ CtA w' A n c (ds ++ [d])) ∨
  (∃ m : Int, m ≠ 0 ∧ e = .returned (.tuple #[.slice none 0 0, .int .i64 m]) ∧ ((mayC okD typeR ds = false ∧ m = 1) ∨ (mayC okD typeR ds = true ∧ m = wrongE okD typeR (envF [] ds) d))))
theorem addA_c (d : Dm) (A : Option Addr) (n cp : Nat) (ds : List Df) (w : World) (hC : CtA w A n cp ds) (hd : d.In w) (hD : d.Ask) (hG : Gw w.heap.size w) :
 Calls Tryz.prog 15 #[.slice A n cp, d.w] w (AddA ds d.df w) := by
 obtain ⟨⟨xs, h1, rfl, h3⟩, _, _⟩ := hC
 refine (add9_c d A n cp xs w h1 h3 hd hD hG).mono ?_
 rintro e w' ⟨hb, ⟨hm, hw, A', n', c', zs, he, hle, hcm, hz, hzd, hzc⟩ | h⟩
 · refine ⟨hb, .inl ⟨hm, hw, A', n', c', he, ⟨zs, hz, hzd, fun z hzm => ?_⟩, hle, hcm⟩⟩
   refine ⟨?_, (hzc z hzm).1, (hzc z hzm).2⟩
   have h : z.df ∈ xs.map (·.df) ++ [d.df] := by rw [← hzd]; exact List.mem_map.2 ⟨z, hzm, rfl⟩
   rcases List.mem_append.1 h with h | h
   · obtain ⟨x, hx, e⟩ := List.mem_map.1 h
     rw [← e]; exact (h3 x hx).ok
   · rw [List.mem_singleton.1 h]; exact hD.ok
 · exact ⟨hb, .inr h⟩
theorem mayA_c (A : Option Addr) (n cp : Nat) (ds : List Df) (w : World) (hC : CtA w A n cp ds) (hG : Gw w.heap.size w) :
 Calls Tryz.prog 10 #[.slice A n cp] w fun e w' => e = .returned (.bool (mayC okD typeR ds)) ∧ Below w.heap.size w w' := by
 obtain ⟨⟨xs, h1, rfl, h3⟩, _, _⟩ := hC
 exact smay_c A n cp xs w h1 h3 hG
theorem findA_c (A : Option Addr) (n cp : Nat) (ds : List Df) (nm : ByteArray) (w : World) (hC : CtA w A n cp ds) (hm : ∀ d ∈ ds, MayD d) :
 Calls Tryz.prog 11 #[.slice A n cp, .string nm] w fun e w' => e = .returned (.int .i64 (findC ds nm)) ∧ Below w.heap.size w w' := by
 obtain ⟨⟨xs, h1, rfl, h3⟩, _, _⟩ := hC
 have h := sfind_c A n cp xs nm w h1.len h1.max h1.sl
 rw [idx_find (fun d hd => hm d.df (List.mem_map.2 ⟨d, hd, rfl⟩)) nm 0] at h
 exact h
theorem kindsA_c (A : Option Addr) (n cp : Nat) (ds : List Df) (nm : ByteArray) (w : World) (hC : CtA w A n cp ds) (hG : Gw w.heap.size w) :
 Calls Tryz.prog 12 #[.slice A n cp, .string nm] w (KindsS ds nm w) := by
 obtain ⟨⟨xs, h1, rfl, h3⟩, _, _⟩ := hC
 exact skinds_c A n cp xs nm w h1 h3 hG
theorem tabR_dfok {nm r : ByteArray} (h1 : nm.size ≤ 1000) (h2 : r.size ≤ 1000) : DfOk (tabR nm r) := by
 have i0 : I64 0 := by unfold I64; omega
 refine ⟨⟨?_, ?_, ?_⟩, ⟨?_, ?_, ?_, i0, i0, ?_, ?_, ?_⟩⟩
 · show nm.size ≤ _; omega
 · intro c hc
   rcases List.mem_cons.1 hc with rfl | hc
   · exact ⟨by show (1 : Nat) ≤ _; omega, by show (0 : Nat) ≤ _; omega⟩
   · rcases List.mem_singleton.1 hc with rfl
     exact ⟨by show (1 : Nat) ≤ _; omega, by show r.size ≤ _; omega⟩
 · intro e he; cases he
 · show (0 : Nat) ≤ _; omega
 · show (0 : Nat) ≤ _; omega
 · show (0 : Nat) ≤ _; omega
 · intro x hx; cases hx
 · intro x hx; cases hx
 · intro x hx; cases hx
theorem viewF_dfok {nm r : ByteArray} (h1 : nm.size ≤ 1000) (h2 : r.size ≤ 1000) : DfOk (viewF nm r) := by
 have i0 : I64 0 := by unfold I64; omega
 refine ⟨⟨?_, ?_, ?_⟩, ⟨?_, ?_, ?_, i0, i0, ?_, ?_, ?_⟩⟩
 · show (0 : Nat) ≤ _; omega
 · intro x hx; cases hx
 · intro e he; cases he
 · show nm.size ≤ _; omega
 · show r.size ≤ _; omega
 · show (0 : Nat) ≤ _; omega
 · intro x hx; cases hx
 · intro x hx
   rw [List.mem_singleton.1 hx]
   unfold I64; omega
 · intro x hx
   rw [List.mem_singleton.1 hx]
   exact i0
def MkA (d : Df) (w : World) (e : Ending) (w' : World) : Prop := ∃ x : Dm, e = .returned x.w ∧ x.In w' ∧ x.Ask ∧ x.df = d ∧ Below w.heap.size w w'
theorem mk_ask {d : Df} {w w' : World} {e : Ending} (ho : DfOk d) (h : MkS d w e w') : MkA d w e w' := by
 obtain ⟨x, he, hi, hd, hle, hc, hb⟩ := h
 exact ⟨x, he, hi, ⟨by rw [hd]; exact ho, hle, by unfold maxLen; omega⟩, hd, hb⟩
theorem mktA_c (nm r : ByteArray) (w : World) (h1 : nm.size ≤ 1000) (h2 : r.size ≤ 1000) : Calls Tryz.prog 19 #[.string nm, .string r] w (MkA (tabR nm r) w) := (mkt_c nm r w).mono fun _ _ h => mk_ask (tabR_dfok h1 h2) h
theorem mkvA_c (nm r : ByteArray) (w : World) (h1 : nm.size ≤ 1000) (h2 : r.size ≤ 1000) : Calls Tryz.prog 20 #[.string nm, .string r] w (MkA (viewF nm r) w) := (mkv_c nm r w).mono fun _ _ h => mk_ask (viewF_dfok h1 h2) h
end Go.Proofs.YtamekagminbejaaGreatDoor
