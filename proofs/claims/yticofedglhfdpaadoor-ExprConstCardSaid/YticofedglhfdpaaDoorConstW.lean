/-
  A value alone, a column alone, null or not: the law ExprConst, walked; no condition.
-/
import Derived.Test.YticofedglhfdpaaDoorTrueW
namespace Go.Proofs.YticofedglhfdpaaDoor
open Go Go.RowKit
set_option maxRecDepth 100000
attribute [local go_sem ↓] run_eqV run_neV

theorem ev_indexR {F : Act} {w : World} {t u : Tmp} {b off n c k : Nat} {o : Oper} (hk : k < n) (ho : o.op = .indexAddr 26 (.tmp t) (.tmp u)) (ht : Reg.slot F t = .slice (some ⟨b, off, none⟩) n c) (hu : Reg.slot F u = .int .i64 k) :
    (execOp F.eval o).run Tryd.prog w = .ok (.value (.pointer (some ⟨b, off + k * 3, none⟩))) w := by
  have e1 : F.eval (.tmp t) = .slice (some ⟨b, off, none⟩) n c := ht
  have e2 : F.eval (.tmp u) = .int .i64 k := hu
  have e0 : (execOp F.eval o).run Tryd.prog w = ((Instr.indexAt 26 (.slice (some ⟨b, off, none⟩) n c) (.int .i64 k)).run Tryd.prog w).andThen fun v w' => .ok (.value v) w' := by
    simp only [execOp, ho, e1, e2, Sem.run_bind, Sem.run_pure]
  rw [e0]
  go_simp
theorem Bx.ldK {w : World} {b : Nat} {x : Val} (h : Bx w b x) : (Instr.loadAt 3 (.pointer (some ⟨b, 0, none⟩))).run Tryd.prog w = .ok (.int .i64 x.k) w := by
  have h0 := h.cell0
  go_simp
theorem eval_const (v : Val) (row : List Val) (h : mayB v = true) : evalR [⟨1, 0, v⟩] row = (v, 0) := by
  have e : stepV row [] ⟨1, 0, v⟩ = .inr [v] := by
    unfold stepV lvV conR
    rw [h]
    rfl
  unfold evalR
  rw [if_neg (by simp)]
  simp only [goS, e]
theorem type_const (v : Val) (h : mayB v = true) : typeR [⟨1, 0, v⟩] [] = (v.k, 0) := by
  have e : stepKS [] [] ⟨1, 0, v⟩ = .inr [v.k] := by
    unfold stepKS stepK lvK
    rw [h]
    rfl
  unfold typeR
  rw [if_neg (by simp)]
  simp only [goS, e]
theorem eval_col (k : Nat) (row : List Val) (x : Val) (h : row[k]? = some x) : evalR [⟨0, k, nl⟩] row = (x, 0) := by
  have e1 : vcolR row k = (x, 0) := by
    unfold vcolR
    rw [if_neg (by omega), Int.toNat_natCast, h]
  have e : stepV row [] ⟨0, k, nl⟩ = .inr [x] := by
    unfold stepV lvV
    simp only [e1]
    rfl
  unfold evalR
  rw [if_neg (by simp)]
  simp only [goS, e]
theorem eval_null (v : Val) (row : List Val) (h : mayB v = true) : evalR [⟨1, 0, v⟩, ⟨10, 0, nl⟩] row = (tv (v.k == 0), 0) := by
  have e : stepV row [] ⟨1, 0, v⟩ = .inr [v] := by
    unfold stepV lvV conR
    rw [h]
    rfl
  have e2 : stepV row [v] ⟨10, 0, nl⟩ = .inr [tv (v.k == 0)] := rfl
  unfold evalR
  rw [if_neg (by simp)]
  simp only [goS, e, e2]
theorem enrTruthC : ∀ args w, (callFunc 13 args).run Tryd.prog w = .ok (.enter 13 args) w := fun _ _ => by kernel_rfl

set_option maxHeartbeats 1000000 in
theorem const_c (v : Val) (A : Option Addr) (n c : Nat) (row : List Val) (k : Int) (w : World) (hz : v.s.size ≤ maxLen) (hn : row.length = n) (hmax : n ≤ maxLen) (hs : Sl w A row) (hk : -9223372036854775808 ≤ k ∧ k ≤ 9223372036854775807) (hw : Wd w) :
    Calls Tryd.prog 4 #[v.v, .slice A n c, .int .i64 k] w fun en w' => en = .returned (.bool true) ∧ Below w.heap.size w w' := by
  have hm1 : n ≤ 9223372036854775807 := hmax
  have Hn := Lib.hid hn
  have Hs := Lib.hid hs
  have Hz := Lib.hid hz
  have Hw := Lib.hid hw
  clear hn hs hz hw hmax
  go_enter Tryd.func4, Tryd.ntmps4
  go_wp2_with fail
  have hb0 := below_one w (.cells #[.int .i64 v.k, .int .i64 v.n, .string v.s] 34)
  have hv0 := Bx.new w v
  generalize w.alloc (.cells #[.int .i64 v.k, .int .i64 v.n, .string v.s] 34) = w0 at hb0 hv0 ⊢
  refine (fixed_c _ (Hw.out.after hb0)).mono ?_
  rintro en w1 ⟨rfl, hb1⟩
  have v1 := hv0.after hb1
  have Hb1 := Lib.hid (hb0.trans (hb1.mono hb0.size))
  clear hb0 hb1 hv0
  have x0 := v1.cell0
  have x1 := v1.cell1
  have x2 := v1.cell2
  have Hv1 := Lib.hid v1
  clear v1
  go_wp2_with fail
  refine (rmay_c v w1 Hz.out).mono ?_
  rintro en w2 ⟨rfl, hb2⟩
  obtain ⟨B, hB⟩ : ∃ B, rmB v = B := ⟨_, rfl⟩
  rw [hB]
  have HB := Lib.hid hB
  have Hb2 := Lib.hid (Hb1.out.trans (hb2.mono Hb1.out.size))
  have Hv2 := Lib.hid (Hv1.out.after hb2)
  clear hB hb2 Hb1 Hv1 x0 x1 x2
  cases B
  · skip
    go_wp2_with fail
    refine (fixed_c _ (Hw.out.after Hb2.out)).mono ?_
    rintro en w3 ⟨rfl, hb3⟩
    have Hb3 := Lib.hid (Hb2.out.trans (hb3.mono Hb2.out.size))
    clear hb3
    go_wp2
    go_ret
    exact ⟨rfl, Hb3.out⟩
  · by_cases hl : n ≤ 40
    · by_cases hk0 : k < 0
      · skip
        go_wp2_with fail
        refine (fixed_c _ (Hw.out.after Hb2.out)).mono ?_
        rintro en w3 ⟨rfl, hb3⟩
        have Hb3 := Lib.hid (Hb2.out.trans (hb3.mono Hb2.out.size))
        clear hb3
        go_wp2
        go_ret
        exact ⟨rfl, Hb3.out⟩
      · obtain ⟨j, rfl⟩ : ∃ j : Nat, k = j := ⟨k.toNat, by omega⟩
        by_cases hkn : j < n
        · have hmB : mayB v = true := by rw [may_rm]; exact HB.out
          obtain ⟨y, hy⟩ : ∃ y, row[j]? = some y := ⟨row[j]'(by rw [Hn.out]; exact hkn), List.getElem?_eq_getElem _⟩
          have Hm := Lib.hid hmB
          have Hy := Lib.hid hy
          have Hsz : Hid (∀ x ∈ ([⟨1, 0, v⟩] : List Nd), x.v.s.size ≤ maxLen) := fun x hx => by simp at hx; rw [hx]; exact Hz.out
          have Hsz2 : Hid (∀ x ∈ ([⟨1, 0, v⟩, ⟨10, 0, nl⟩] : List Nd), x.v.s.size ≤ maxLen) := fun x hx => by (simp at hx; rcases hx with rfl | rfl; exact Hz.out; exact Nat.zero_le _)
          have Hsz0 : Hid (∀ x ∈ ([⟨0, j, nl⟩] : List Nd), x.v.s.size ≤ maxLen) := fun x hx => by simp at hx; rw [hx]; exact Nat.zero_le _
          clear hmB hy
          have x0 := Hv2.out.cell0
          have x1 := Hv2.out.cell1
          have x2 := Hv2.out.cell2
          go_wp2_with fail
          clear x0 x1 x2
          have hba := below_one w2 (.cells #[.int .i64 1, .int .i64 0, .int .i64 v.k, .int .i64 v.n, .string v.s] 40)
          have hsl : SlN (w2.alloc (.cells #[.int .i64 1, .int .i64 0, .int .i64 v.k, .int .i64 v.n, .string v.s] 40)) (some ⟨w2.heap.size, 0, none⟩) [⟨1, 0, v⟩] := SlN.new [⟨1, 0, v⟩] rfl
          generalize w2.alloc (.cells #[.int .i64 1, .int .i64 0, .int .i64 v.k, .int .i64 v.n, .string v.s] 40) = u0 at hba hsl ⊢
          have Hb3 := Lib.hid (Hb2.out.trans (hba.mono Hb2.out.size))
          have Hv3 := Lib.hid (Hv2.out.after hba)
          clear hba Hb2 Hv2
          refine (eval_c _ A 1 1 n c [⟨1, 0, v⟩] row u0 rfl hsl (by unfold maxLen; omega) Hn.out (Hs.out.after Hb3.out) Hsz.out).mono ?_
          rintro en q0 ⟨rfl, hbb⟩
          rw [eval_const v row Hm.out]
          clear hsl
          have Hb4 := Lib.hid (Hb3.out.trans (hbb.mono Hb3.out.size))
          have Hv4 := Lib.hid (Hv3.out.after hbb)
          clear hbb Hb3 Hv3
          have hba := below_one q0 (.cells #[.int .i64 v.k, .int .i64 v.n, .string v.s] 34)
          have hbx := Bx.new q0 v
          skip
          have Hb5 := Lib.hid (Hb4.out.trans (hba.mono Hb4.out.size))
          have Hv5 := Lib.hid (Hv4.out.after hba)
          clear hba Hb4 Hv4
          have Ba5 := Lib.hid (hbx)
          clear hbx
          have x0 := Hv5.out.cell0
          have x1 := Hv5.out.cell1
          have x2 := Hv5.out.cell2
          go_wp2_with fail
          clear x0 x1 x2
          have hba := below_one (q0.alloc (.cells #[.int .i64 v.k, .int .i64 v.n, .string v.s] 34)) (.cells #[.int .i64 1, .int .i64 0, .int .i64 v.k, .int .i64 v.n, .string v.s] 40)
          have hszz : (q0.alloc (.cells #[.int .i64 v.k, .int .i64 v.n, .string v.s] 34)).heap.size = q0.heap.size + 1 := by simp
          have hsl : SlN ((q0.alloc (.cells #[.int .i64 v.k, .int .i64 v.n, .string v.s] 34)).alloc (.cells #[.int .i64 1, .int .i64 0, .int .i64 v.k, .int .i64 v.n, .string v.s] 40)) (some ⟨q0.heap.size + 1, 0, none⟩) [⟨1, 0, v⟩] := by have h := SlN.new (w := (q0.alloc (.cells #[.int .i64 v.k, .int .i64 v.n, .string v.s] 34))) [⟨1, 0, v⟩] rfl; rw [hszz] at h; exact h
          clear hszz
          generalize (q0.alloc (.cells #[.int .i64 v.k, .int .i64 v.n, .string v.s] 34)).alloc (.cells #[.int .i64 1, .int .i64 0, .int .i64 v.k, .int .i64 v.n, .string v.s] 40) = u1 at hba hsl ⊢
          have Hb6 := Lib.hid (Hb5.out.trans (hba.mono Hb5.out.size))
          have Hv6 := Lib.hid (Hv5.out.after hba)
          have Ba6 := Lib.hid (Ba5.out.after hba)
          clear hba Hb5 Hv5 Ba5
          refine (type_c _ none 1 1 0 0 [⟨1, 0, v⟩] [] u1 rfl hsl (by unfold maxLen; omega) rfl (.inl rfl) Hsz.out).mono ?_
          rintro en q1 ⟨rfl, hbb⟩
          rw [type_const v Hm.out]
          clear hsl
          have Hb7 := Lib.hid (Hb6.out.trans (hbb.mono Hb6.out.size))
          have Hv7 := Lib.hid (Hv6.out.after hbb)
          have Ba7 := Lib.hid (Ba6.out.after hbb)
          clear hbb Hb6 Hv6 Ba6
          go_wp2_with fail
          have hba := below_one q1 (.cells #[.int .i64 0, .int .i64 (j : Int), .int .i64 0, .int .i64 0, .string emp] 40)
          have hsl : SlN (q1.alloc (.cells #[.int .i64 0, .int .i64 (j : Int), .int .i64 0, .int .i64 0, .string emp] 40)) (some ⟨q1.heap.size, 0, none⟩) [⟨0, (j : Int), nl⟩] := SlN.new [⟨0, (j : Int), nl⟩] rfl
          generalize q1.alloc (.cells #[.int .i64 0, .int .i64 (j : Int), .int .i64 0, .int .i64 0, .string emp] 40) = u2 at hba hsl ⊢
          have Hb8 := Lib.hid (Hb7.out.trans (hba.mono Hb7.out.size))
          have Hv8 := Lib.hid (Hv7.out.after hba)
          have Ba8 := Lib.hid (Ba7.out.after hba)
          clear hba Hb7 Hv7 Ba7
          refine (eval_c _ A 1 1 n c [⟨0, (j : Int), nl⟩] row u2 rfl hsl (by unfold maxLen; omega) Hn.out (Hs.out.after Hb8.out) Hsz0.out).mono ?_
          rintro en q2 ⟨rfl, hbb⟩
          rw [eval_col j row y Hy.out]
          clear hsl
          have Hb9 := Lib.hid (Hb8.out.trans (hbb.mono Hb8.out.size))
          have Hv9 := Lib.hid (Hv8.out.after hbb)
          have Ba9 := Lib.hid (Ba8.out.after hbb)
          clear hbb Hb8 Hv8 Ba8
          have hba := below_one q2 (.cells #[.int .i64 y.k, .int .i64 y.n, .string y.s] 34)
          have hbx := Bx.new q2 y
          skip
          have Hb10 := Lib.hid (Hb9.out.trans (hba.mono Hb9.out.size))
          have Hv10 := Lib.hid (Hv9.out.after hba)
          have Ba10 := Lib.hid (Ba9.out.after hba)
          clear hba Hb9 Hv9 Ba9
          have Bb10 := Lib.hid (hbx)
          clear hbx
          have x0 := Hv10.out.cell0
          have x1 := Hv10.out.cell1
          have x2 := Hv10.out.cell2
          go_wp2_with fail
          clear x0 x1 x2
          have hba := below_one (q2.alloc (.cells #[.int .i64 y.k, .int .i64 y.n, .string y.s] 34)) (.cells #[.int .i64 1, .int .i64 0, .int .i64 v.k, .int .i64 v.n, .string v.s, .int .i64 10, .int .i64 0, .int .i64 0, .int .i64 0, .string emp] 40)
          have hszz : (q2.alloc (.cells #[.int .i64 y.k, .int .i64 y.n, .string y.s] 34)).heap.size = q2.heap.size + 1 := by simp
          have hsl : SlN ((q2.alloc (.cells #[.int .i64 y.k, .int .i64 y.n, .string y.s] 34)).alloc (.cells #[.int .i64 1, .int .i64 0, .int .i64 v.k, .int .i64 v.n, .string v.s, .int .i64 10, .int .i64 0, .int .i64 0, .int .i64 0, .string emp] 40)) (some ⟨q2.heap.size + 1, 0, none⟩) [⟨1, 0, v⟩, ⟨10, 0, nl⟩] := by have h := SlN.new (w := (q2.alloc (.cells #[.int .i64 y.k, .int .i64 y.n, .string y.s] 34))) [⟨1, 0, v⟩, ⟨10, 0, nl⟩] rfl; rw [hszz] at h; exact h
          clear hszz
          generalize (q2.alloc (.cells #[.int .i64 y.k, .int .i64 y.n, .string y.s] 34)).alloc (.cells #[.int .i64 1, .int .i64 0, .int .i64 v.k, .int .i64 v.n, .string v.s, .int .i64 10, .int .i64 0, .int .i64 0, .int .i64 0, .string emp] 40) = u3 at hba hsl ⊢
          have Hb11 := Lib.hid (Hb10.out.trans (hba.mono Hb10.out.size))
          have Hv11 := Lib.hid (Hv10.out.after hba)
          have Ba11 := Lib.hid (Ba10.out.after hba)
          have Bb11 := Lib.hid (Bb10.out.after hba)
          clear hba Hb10 Hv10 Ba10 Bb10
          refine (eval_c _ A 2 2 n c [⟨1, 0, v⟩, ⟨10, 0, nl⟩] row u3 rfl hsl (by unfold maxLen; omega) Hn.out (Hs.out.after Hb11.out) Hsz2.out).mono ?_
          rintro en q3 ⟨rfl, hbb⟩
          rw [eval_null v row Hm.out]
          clear hsl
          have Hb12 := Lib.hid (Hb11.out.trans (hbb.mono Hb11.out.size))
          have Hv12 := Lib.hid (Hv11.out.after hbb)
          have Ba12 := Lib.hid (Ba11.out.after hbb)
          have Bb12 := Lib.hid (Bb11.out.after hbb)
          clear hbb Hb11 Hv11 Ba11 Bb11
          obtain ⟨T, hT⟩ : ∃ T, tv (v.k == 0) = T := ⟨_, rfl⟩
          rw [hT]
          have HT := Lib.hid hT
          clear hT
          have hba := below_one q3 (.cells #[.int .i64 T.k, .int .i64 T.n, .string T.s] 34)
          have hbx := Bx.new q3 T
          have Hb13 := Lib.hid (Hb12.out.trans (hba.mono Hb12.out.size))
          have Hv13 := Lib.hid (Hv12.out.after hba)
          have Ba13 := Lib.hid (Ba12.out.after hba)
          have Bb13 := Lib.hid (Bb12.out.after hba)
          clear hba Hb12 Hv12 Ba12 Bb12
          have Bc13 := Lib.hid (hbx)
          clear hbx
          go_wp2_with fail
          rcases Hs.out with h0 | ⟨b, off, rfl, hlt, hc⟩
          · rw [h0] at Hy; exact absurd Hy.out (by simp)
          obtain ⟨c0, c1, c2⟩ := hc j y Hy.out
          refine Reg.wp_region_vals mixed (by kernel_rfl) [(70, .int .i64 0), (71, .bool true), (72, .bool true), (73, v.v), (74, v.v), (75, .bool true), (76, .bool true), (77, .bool true), (78, .int .i64 0), (79, .bool true), (80, .bool true), (81, .bool true), (82, .int .i64 v.k), (83, .pointer (some ⟨w.heap.size, 0, none⟩)), (84, .int .i64 v.k), (85, .bool true), (86, .bool true), (87, .bool true), (88, .int .i64 0), (89, .bool true), (90, .bool true), (91, .bool true), (92, y.v), (93, .slice (some ⟨b, off, none⟩) n c), (94, .int .i64 (j : Int)), (95, .pointer (some ⟨b, off + j * 3, none⟩)), (96, y.v), (97, .bool true), (98, .bool true), (99, .bool true), (100, .int .i64 0), (101, .bool true), (102, .bool true), (103, .bool true), (104, T.v), (105, .pointer (some ⟨w.heap.size, 0, none⟩)), (106, .int .i64 v.k), (107, .bool (v.k == 0)), (108, T.v), (109, .bool true), (110, .bool true), (6, .bool true)] 111 rfl (by kernel_rfl) ?_ ?_
          · intro F hF w' hB'
            have hb := Hb13.out.trans (hB'.mono Hb13.out.size)
            have hv := Hv13.out.after hB'
            have ba := Ba13.out.after hB'
            have bb := Bb13.out.after hB'
            have bc := Bc13.out.after hB'
            refine ⟨?_, ?_, ?_, ?_, ?_, ?_, ?_, ?_, ?_, ?_, ?_, ?_, ?_, ?_, ?_, ?_, ?_, ?_, ?_, ?_, ?_, ?_, ?_, ?_, ?_, ?_, ?_, ?_, ?_, ?_, ?_, ?_, ?_, ?_, ?_, ?_, ?_, ?_, ?_, ?_, ?_, ?_, trivial⟩
            · exact Reg.doesV_val (ev_move rfl) (by rw [hF]; kernel_rfl) (by rw [hF]; kernel_rfl)
            · exact Reg.doesV_val (ev_eqIC (a := 0) rfl (by rw [hF]; kernel_rfl)) (by rw [hF]; kernel_rfl) (by rw [hF]; kernel_rfl)
            · exact Reg.doesV_val (ev_move rfl) (by rw [hF]; kernel_rfl) (by rw [hF]; kernel_rfl)
            · exact Reg.doesV_val (ev_load ba rfl (by rw [hF]; kernel_rfl)) (by rw [hF]; kernel_rfl) (by rw [hF]; kernel_rfl)
            · exact Reg.doesV_val (ev_load hv rfl (by rw [hF]; kernel_rfl)) (by rw [hF]; kernel_rfl) (by rw [hF]; kernel_rfl)
            · exact Reg.doesV_val (by rw [ev_eq v v rfl (by rw [hF]; kernel_rfl) (by rw [hF]; kernel_rfl), Val.eq_self]) (by rw [hF]; kernel_rfl) (by rw [hF]; kernel_rfl)
            · exact Reg.doesV_val (ev_pick true rfl (by rw [hF]; kernel_rfl)) (by rw [hF]; kernel_rfl) (by rw [hF]; kernel_rfl)
            · exact Reg.doesV_val (ev_move rfl) (by rw [hF]; kernel_rfl) (by rw [hF]; kernel_rfl)
            · exact Reg.doesV_val (ev_move rfl) (by rw [hF]; kernel_rfl) (by rw [hF]; kernel_rfl)
            · exact Reg.doesV_val (ev_eqIC (a := 0) rfl (by rw [hF]; kernel_rfl)) (by rw [hF]; kernel_rfl) (by rw [hF]; kernel_rfl)
            · exact Reg.doesV_val (ev_pick true rfl (by rw [hF]; kernel_rfl)) (by rw [hF]; kernel_rfl) (by rw [hF]; kernel_rfl)
            · exact Reg.doesV_val (ev_move rfl) (by rw [hF]; kernel_rfl) (by rw [hF]; kernel_rfl)
            · exact Reg.doesV_val (ev_move rfl) (by rw [hF]; kernel_rfl) (by rw [hF]; kernel_rfl)
            · exact Reg.doesV_val (ev_fa rfl (by rw [hF]; kernel_rfl) (fa_val0 w' w.heap.size 0)) (by rw [hF]; kernel_rfl) (by rw [hF]; kernel_rfl)
            · exact Reg.doesV_val (ev_ld rfl (by rw [hF]; kernel_rfl) hv.ldK) (by rw [hF]; kernel_rfl) (by rw [hF]; kernel_rfl)
            · exact Reg.doesV_val (by rw [ev_eqII (a := v.k) (b := v.k) rfl (by rw [hF]; kernel_rfl) (by rw [hF]; kernel_rfl), beq_self_eq_true]) (by rw [hF]; kernel_rfl) (by rw [hF]; kernel_rfl)
            · exact Reg.doesV_val (ev_pick true rfl (by rw [hF]; kernel_rfl)) (by rw [hF]; kernel_rfl) (by rw [hF]; kernel_rfl)
            · exact Reg.doesV_val (ev_move rfl) (by rw [hF]; kernel_rfl) (by rw [hF]; kernel_rfl)
            · exact Reg.doesV_val (ev_move rfl) (by rw [hF]; kernel_rfl) (by rw [hF]; kernel_rfl)
            · exact Reg.doesV_val (ev_eqIC (a := 0) rfl (by rw [hF]; kernel_rfl)) (by rw [hF]; kernel_rfl) (by rw [hF]; kernel_rfl)
            · exact Reg.doesV_val (ev_pick true rfl (by rw [hF]; kernel_rfl)) (by rw [hF]; kernel_rfl) (by rw [hF]; kernel_rfl)
            · exact Reg.doesV_val (ev_move rfl) (by rw [hF]; kernel_rfl) (by rw [hF]; kernel_rfl)
            · exact Reg.doesV_val (ev_load bb rfl (by rw [hF]; kernel_rfl)) (by rw [hF]; kernel_rfl) (by rw [hF]; kernel_rfl)
            · exact Reg.doesV_val (ev_move rfl) (by rw [hF]; kernel_rfl) (by rw [hF]; kernel_rfl)
            · exact Reg.doesV_val (ev_move rfl) (by rw [hF]; kernel_rfl) (by rw [hF]; kernel_rfl)
            · exact Reg.doesV_val (ev_indexR (b := b) (off := off) (n := n) (c := c) hkn rfl (by rw [hF]; kernel_rfl) (by rw [hF]; kernel_rfl)) (by rw [hF]; kernel_rfl) (by rw [hF]; kernel_rfl)
            · exact Reg.doesV_val (ev_load3 ((hb.cell hlt).trans c0) ((hb.cell hlt).trans c1) ((hb.cell hlt).trans c2) rfl (by rw [hF]; kernel_rfl)) (by rw [hF]; kernel_rfl) (by rw [hF]; kernel_rfl)
            · exact Reg.doesV_val (by rw [ev_eq y y rfl (by rw [hF]; kernel_rfl) (by rw [hF]; kernel_rfl), Val.eq_self]) (by rw [hF]; kernel_rfl) (by rw [hF]; kernel_rfl)
            · exact Reg.doesV_val (ev_pick true rfl (by rw [hF]; kernel_rfl)) (by rw [hF]; kernel_rfl) (by rw [hF]; kernel_rfl)
            · exact Reg.doesV_val (ev_move rfl) (by rw [hF]; kernel_rfl) (by rw [hF]; kernel_rfl)
            · exact Reg.doesV_val (ev_move rfl) (by rw [hF]; kernel_rfl) (by rw [hF]; kernel_rfl)
            · exact Reg.doesV_val (ev_eqIC (a := 0) rfl (by rw [hF]; kernel_rfl)) (by rw [hF]; kernel_rfl) (by rw [hF]; kernel_rfl)
            · exact Reg.doesV_val (ev_pick true rfl (by rw [hF]; kernel_rfl)) (by rw [hF]; kernel_rfl) (by rw [hF]; kernel_rfl)
            · exact Reg.doesV_val (ev_move rfl) (by rw [hF]; kernel_rfl) (by rw [hF]; kernel_rfl)
            · exact Reg.doesV_val (ev_load bc rfl (by rw [hF]; kernel_rfl)) (by rw [hF]; kernel_rfl) (by rw [hF]; kernel_rfl)
            · exact Reg.doesV_val (ev_fa rfl (by rw [hF]; kernel_rfl) (fa_val0 w' w.heap.size 0)) (by rw [hF]; kernel_rfl) (by rw [hF]; kernel_rfl)
            · exact Reg.doesV_val (ev_ld rfl (by rw [hF]; kernel_rfl) hv.ldK) (by rw [hF]; kernel_rfl) (by rw [hF]; kernel_rfl)
            · exact Reg.doesV_val (ev_eqIC (a := v.k) rfl (by rw [hF]; kernel_rfl)) (by rw [hF]; kernel_rfl) (by rw [hF]; kernel_rfl)
            · exact Reg.doesV_call (by have h := rtruth_c (v.k == 0) w'; rw [HT.out] at h; exact h) (ev_call enrTruthC rfl (by rw [hF]; kernel_rfl)) (by rw [hF]; kernel_rfl) (by rw [hF]; kernel_rfl)
            · exact Reg.doesV_val (by rw [ev_eq T T rfl (by rw [hF]; kernel_rfl) (by rw [hF]; kernel_rfl), Val.eq_self]) (by rw [hF]; kernel_rfl) (by rw [hF]; kernel_rfl)
            · exact Reg.doesV_val (ev_pick true rfl (by rw [hF]; kernel_rfl)) (by rw [hF]; kernel_rfl) (by rw [hF]; kernel_rfl)
            · exact Reg.doesV_val (ev_assign rfl) (by rw [hF]; kernel_rfl) (by rw [hF]; kernel_rfl)
          · intro w9 hB'
            simp only [Reg.putAll, Act.put, List.setIfInBounds_toArray, List.set_cons_zero, List.set_cons_succ]
            have Hb9 := Lib.hid (Hb13.out.trans (hB'.mono Hb13.out.size))
            clear hB'
            go_wp2
            go_ret
            exact ⟨rfl, Hb9.out⟩
        · skip
          go_wp2_with fail
          refine (fixed_c _ (Hw.out.after Hb2.out)).mono ?_
          rintro en w3 ⟨rfl, hb3⟩
          have Hb3 := Lib.hid (Hb2.out.trans (hb3.mono Hb2.out.size))
          clear hb3
          go_wp2
          go_ret
          exact ⟨rfl, Hb3.out⟩
    · skip
      go_wp2_with fail
      refine (fixed_c _ (Hw.out.after Hb2.out)).mono ?_
      rintro en w3 ⟨rfl, hb3⟩
      have Hb3 := Lib.hid (Hb2.out.trans (hb3.mono Hb2.out.size))
      clear hb3
      go_wp2
      go_ret
      exact ⟨rfl, Hb3.out⟩
end Go.Proofs.YticofedglhfdpaaDoor
