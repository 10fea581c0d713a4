/-
  The law LexWhole, walked: of any two tokens it answers true, and turns nothing that was there.
-/
import Derived.Test.YtmgmdkagnhmihaaDoorLexV
import Derived.Deep.RegionHeld3
namespace Go.Proofs.YtmgmdkagnhmihaaDoor
open Go Go.RowKit
set_option maxRecDepth 100000
attribute [local go_sem ↓] Go.wp_at_zero Go.wp_at_succ
attribute [local go_sem ↓] run_neT run_eqT

theorem lexO_le' {l : List UInt8} (h : l.length ≤ 20000) : lexO l = lexL l := by unfold lexO; rw [if_pos h]
theorem Bt.below {w w' : World} {b B : Nat} {a : Tk} (h : Bt w b a) (hb : Below B w w') (hlt : b < B) : Bt w' b a := (hb.block b hlt).trans h
theorem print_1 (A : Option Addr) (t : Tk) (w : World) (hs : SlG w A 5 rdT [t]) (hm : mayT t = true) (h6 : T64 t) (hG : GL w) :
    Calls Tryd.prog 11 #[.slice A 1 1] w fun e w' => e = .returned (.string (ba (txtT t))) ∧ Below w.heap.size w w' := by
  have h := print_c A 1 1 [t] w rfl (by decide) hs (fun x hx => by simp at hx; rw [hx]; exact h6) (fun x hx => by simp at hx; rw [hx]; exact may_bounds t hm) hG
  have e : prtO [t] = txtT t := by
    unfold prtO
    rw [if_pos (by simp [hm]), print_one]
  rw [e] at h
  exact h
set_option maxHeartbeats 1000000 in
theorem whole_w (a b : Tk) (w : World) (ha6 : T64 a) (hb6 : T64 b) (hza : a.t.size ≤ maxLen ∧ a.v.s.size ≤ maxLen) (hzb : b.t.size ≤ maxLen ∧ b.v.s.size ≤ maxLen) (hG : GL w) :
    Calls Tryd.prog 5 #[a.val, b.val] w fun e w' => e = .returned (.bool true) ∧ Below w.heap.size w w' := by
  have hb0 := (below_one w a.obj).alloc (by simp) b.obj
  have hBa := (Bt.new w a).after (below_one _ b.obj)
  have hBb := Bt.new (w.alloc a.obj) b
  have hsz : (w.alloc a.obj).heap.size = w.heap.size + 1 := by simp
  rw [hsz] at hBb
  have HB0 := Lib.hid hb0
  have HBa := Lib.hid hBa
  have HBb := Lib.hid hBb
  have HG := Lib.hid (hG.after hb0)
  have Ha6 := Lib.hid ha6
  have Hb6 := Lib.hid hb6
  have Hza := Lib.hid hza
  have Hzb := Lib.hid hzb
  clear hb0 hBa hBb hsz hG ha6 hb6 hza hzb
  go_enter Tryd.func5, Tryd.ntmps5
  go_wp2_with fail
  refine (fixed_c _ HG.out).mono ?_
  rintro e w1 ⟨rfl, hb1⟩
  have HB1 := Lib.hid hb1
  have HBa1 := Lib.hid (HBa.out.after hb1)
  have HBb1 := Lib.hid (HBb.out.after hb1)
  clear hb1 HBa HBb
  obtain ⟨c0, c1, c2, c3, c4, f0, f1, f2, f3, f4, hlt⟩ := HBa1.out.all
  clear f0 f1 f2 f3 f4
  go_wp2_with fail
  refine (rmayT_c a w1 Hza.out.1 Hza.out.2).mono ?_
  rintro e w2 ⟨rfl, hb2⟩
  have HB2 := Lib.hid (below_via HB1.out hb2)
  have HBa2 := Lib.hid (HBa1.out.after hb2)
  have HBb2 := Lib.hid (HBb1.out.after hb2)
  clear hb2 c0 c1 c2 c3 c4 hlt
  cases hma : mayT a
  case false =>
    clear hma
    go_wp2_with fail
    refine (fixed_c w2 (HG.out.after HB2.out)).mono ?_
    rintro e w9 ⟨rfl, hb9⟩
    have HB9 := Lib.hid (below_via HB2.out hb9)
    clear hb9
    go_wp2
    go_ret
    exact ⟨rfl, HB0.out.trans (HB9.out.mono HB0.out.size)⟩
  have Hma := Lib.hid hma
  clear hma
  obtain ⟨c0, c1, c2, c3, c4, f0, f1, f2, f3, f4, hlt⟩ := HBb2.out.all
  clear f0 f1 f2 f3 f4
  go_wp2_with fail
  refine (rmayT_c b w2 Hzb.out.1 Hzb.out.2).mono ?_
  rintro e w3 ⟨rfl, hb3⟩
  have HB3 := Lib.hid (below_via HB2.out hb3)
  have HBa3 := Lib.hid (HBa2.out.after hb3)
  have HBb3 := Lib.hid (HBb2.out.after hb3)
  clear hb3 c0 c1 c2 c3 c4 hlt
  cases hmb : mayT b
  case false =>
    clear hmb
    go_wp2_with fail
    refine (fixed_c w3 (HG.out.after HB3.out)).mono ?_
    rintro e w9 ⟨rfl, hb9⟩
    have HB9 := Lib.hid (below_via HB3.out hb9)
    clear hb9
    go_wp2
    go_ret
    exact ⟨rfl, HB0.out.trans (HB9.out.mono HB0.out.size)⟩
  have Hmb := Lib.hid hmb
  clear hmb
  obtain ⟨c0, c1, c2, c3, c4, f0, f1, f2, f3, f4, hlt⟩ := HBa3.out.all
  obtain ⟨d0, d1, d2, d3, d4, g0, g1, g2, g3, g4, hlt2⟩ := HBb3.out.all
  clear f0 f1 f2 f3 f4 g0 g1 g2 g3 g4
  have HSt : Hid (∀ w' : World, Below w3.heap.size w3 w' → (w'.cell? ⟨w.heap.size, 0, none⟩ = some (.int .i64 a.k) ∧ w'.cell? ⟨w.heap.size, 1, none⟩ = some (.string a.t) ∧ w'.cell? ⟨w.heap.size, 2, none⟩ = some (.int .i64 a.v.k) ∧ w'.cell? ⟨w.heap.size, 3, none⟩ = some (.int .i64 a.v.n) ∧ w'.cell? ⟨w.heap.size, 4, none⟩ = some (.string a.v.s) ∧ w'.cell? ⟨w.heap.size + 1, 0, none⟩ = some (.int .i64 b.k) ∧ w'.cell? ⟨w.heap.size + 1, 1, none⟩ = some (.string b.t) ∧ w'.cell? ⟨w.heap.size + 1, 2, none⟩ = some (.int .i64 b.v.k) ∧ w'.cell? ⟨w.heap.size + 1, 3, none⟩ = some (.int .i64 b.v.n) ∧ w'.cell? ⟨w.heap.size + 1, 4, none⟩ = some (.string b.v.s))) := Lib.hid fun w' hb => by
    have ha := (HBa3.out.after hb).all
    have hb := (HBb3.out.after hb).all
    exact ⟨ha.1, ha.2.1, ha.2.2.1, ha.2.2.2.1, ha.2.2.2.2.1, hb.1, hb.2.1, hb.2.2.1, hb.2.2.2.1, hb.2.2.2.2.1⟩
  have HG3 := Lib.hid (HG.out.after HB3.out)
  have HA1 := Lib.hid ((below_one w3 (.cells #[.int .i64 a.k, .string a.t, .int .i64 a.v.k, .int .i64 a.v.n, .string a.v.s] 35)).drew)
  have HA2 := Lib.hid (((below_one w3 (.cells #[.int .i64 a.k, .string a.t, .int .i64 a.v.k, .int .i64 a.v.n, .string a.v.s] 35)).alloc (by simp) (.cells #[.int .i64 b.k, .string b.t, .int .i64 b.v.k, .int .i64 b.v.n, .string b.v.s] 35)).drew)
  have HA3 := Lib.hid (((below_one w3 (.cells #[.int .i64 b.k, .string b.t, .int .i64 b.v.k, .int .i64 b.v.n, .string b.v.s] 35)).alloc (by simp) (.cells #[.int .i64 a.k, .string a.t, .int .i64 a.v.k, .int .i64 a.v.n, .string a.v.s] 35)).drew)
  have HP1 : Hid (SlG (w3.alloc (.cells #[.int .i64 a.k, .string a.t, .int .i64 a.v.k, .int .i64 a.v.n, .string a.v.s] 35)).drew (some ⟨w3.heap.size, 0, none⟩) 5 rdT [a]) := Lib.hid ((SlG.new tOk.len [a] rfl).after (Below.refl _ _).drew)
  have HP2 : Hid (SlG ((w3.alloc (.cells #[.int .i64 a.k, .string a.t, .int .i64 a.v.k, .int .i64 a.v.n, .string a.v.s] 35)).alloc (.cells #[.int .i64 b.k, .string b.t, .int .i64 b.v.k, .int .i64 b.v.n, .string b.v.s] 35)).drew (some ⟨w3.heap.size, 0, none⟩) 5 rdT [a]) := Lib.hid (((SlG.new tOk.len [a] rfl).alloc _).after (Below.refl _ _).drew)
  have HP3 : Hid (SlG ((w3.alloc (.cells #[.int .i64 b.k, .string b.t, .int .i64 b.v.k, .int .i64 b.v.n, .string b.v.s] 35)).alloc (.cells #[.int .i64 a.k, .string a.t, .int .i64 a.v.k, .int .i64 a.v.n, .string a.v.s] 35)).drew (some ⟨w3.heap.size + 1, 0, none⟩) 5 rdT [a]) := Lib.hid ((SlG.newAt (by simp) tOk.len [a] rfl).after (Below.refl _ _).drew)
  have HQ2 : Hid (SlG ((w3.alloc (.cells #[.int .i64 a.k, .string a.t, .int .i64 a.v.k, .int .i64 a.v.n, .string a.v.s] 35)).alloc (.cells #[.int .i64 b.k, .string b.t, .int .i64 b.v.k, .int .i64 b.v.n, .string b.v.s] 35)).drew (some ⟨w3.heap.size + 1, 0, none⟩) 5 rdT [b]) := Lib.hid ((SlG.newAt (by simp) tOk.len [b] rfl).after (Below.refl _ _).drew)
  have HQ3 : Hid (SlG ((w3.alloc (.cells #[.int .i64 b.k, .string b.t, .int .i64 b.v.k, .int .i64 b.v.n, .string b.v.s] 35)).alloc (.cells #[.int .i64 a.k, .string a.t, .int .i64 a.v.k, .int .i64 a.v.n, .string a.v.s] 35)).drew (some ⟨w3.heap.size, 0, none⟩) 5 rdT [b]) := Lib.hid (((SlG.new tOk.len [b] rfl).alloc _).after (Below.refl _ _).drew)
  go_wp2_with fail
  go_region_held3 (fun w' => (w'.cell? ⟨w.heap.size, 0, none⟩ = some (.int .i64 a.k) ∧ w'.cell? ⟨w.heap.size, 1, none⟩ = some (.string a.t) ∧ w'.cell? ⟨w.heap.size, 2, none⟩ = some (.int .i64 a.v.k) ∧ w'.cell? ⟨w.heap.size, 3, none⟩ = some (.int .i64 a.v.n) ∧ w'.cell? ⟨w.heap.size, 4, none⟩ = some (.string a.v.s) ∧ w'.cell? ⟨w.heap.size + 1, 0, none⟩ = some (.int .i64 b.k) ∧ w'.cell? ⟨w.heap.size + 1, 1, none⟩ = some (.string b.t) ∧ w'.cell? ⟨w.heap.size + 1, 2, none⟩ = some (.int .i64 b.v.k) ∧ w'.cell? ⟨w.heap.size + 1, 3, none⟩ = some (.int .i64 b.v.n) ∧ w'.cell? ⟨w.heap.size + 1, 4, none⟩ = some (.string b.v.s)))
    (first
      | exact HSt.out _ HbS.out
      | go_keep)
    (first
      | (go_at_call 11
         with_reducible refine (print_1 (some ⟨w3.heap.size, 0, none⟩) a (w3.alloc (.cells #[.int .i64 a.k, .string a.t, .int .i64 a.v.k, .int .i64 a.v.n, .string a.v.s] 35)).drew HP1.out Hma.out Ha6.out (HG3.out.after HA1.out)).mono ?_
         rintro e w4 ⟨rfl, hb4⟩
         have HbS := Lib.hid (below_via HA1.out hb4)
         have HQ4 : Hid (SlG (w4.alloc (.cells #[.int .i64 b.k, .string b.t, .int .i64 b.v.k, .int .i64 b.v.n, .string b.v.s] 35)) (some ⟨w4.heap.size, 0, none⟩) 5 rdT [b]) := Lib.hid (SlG.new tOk.len [b] rfl)
         clear hb4)
      | (go_at_call 11
         with_reducible refine (print_1 (some ⟨w3.heap.size, 0, none⟩) a ((w3.alloc (.cells #[.int .i64 a.k, .string a.t, .int .i64 a.v.k, .int .i64 a.v.n, .string a.v.s] 35)).alloc (.cells #[.int .i64 b.k, .string b.t, .int .i64 b.v.k, .int .i64 b.v.n, .string b.v.s] 35)).drew HP2.out Hma.out Ha6.out (HG3.out.after HA2.out)).mono ?_
         rintro e w4 ⟨rfl, hb4⟩
         have HbS := Lib.hid (below_via HA2.out hb4)
         have HQ5 := Lib.hid (HQ2.out.after hb4)
         clear hb4)
      | (go_at_call 11
         with_reducible refine (print_1 (some ⟨w3.heap.size + 1, 0, none⟩) a ((w3.alloc (.cells #[.int .i64 b.k, .string b.t, .int .i64 b.v.k, .int .i64 b.v.n, .string b.v.s] 35)).alloc (.cells #[.int .i64 a.k, .string a.t, .int .i64 a.v.k, .int .i64 a.v.n, .string a.v.s] 35)).drew HP3.out Hma.out Ha6.out (HG3.out.after HA3.out)).mono ?_
         rintro e w4 ⟨rfl, hb4⟩
         have HbS := Lib.hid (below_via HA3.out hb4)
         have HQ5 := Lib.hid (HQ3.out.after hb4)
         clear hb4)
      | (go_at_call 11
         with_reducible refine (print_1 (some ⟨w4.heap.size, 0, none⟩) b (w4.alloc (.cells #[.int .i64 b.k, .string b.t, .int .i64 b.v.k, .int .i64 b.v.n, .string b.v.s] 35)) HQ4.out Hmb.out Hb6.out (HG3.out.after (below_al HbS.out _))).mono ?_
         rintro e w6 ⟨rfl, hb6⟩
         have HbS := Lib.hid (below_via (below_al HbS.out _) hb6)
         clear hb6)
      | (go_at_call 11
         with_reducible refine (print_1 _ b w4 HQ5.out Hmb.out Hb6.out (HG3.out.after HbS.out)).mono ?_
         rintro e w6 ⟨rfl, hb6⟩
         have HbS := Lib.hid (below_via HbS.out hb6)
         clear hb6))
  all_goals
    clear HA1 HA2 HA3 HP1 HP2 HP3 HQ2 HQ3 c0 c1 c2 c3 c4 d0 d1 d2 d3 d4 hlt hlt2
    have hHB6 := below_via HB3.out HbS.out
    have hBa6 := HBa3.out.after HbS.out
    have hBb6 := HBb3.out.after HbS.out
    have HB6 := Lib.hid hHB6
    have HBa6 := Lib.hid hBa6
    have HBb6 := Lib.hid hBb6
    have hlx : lexO (txtT a) = some [a] := by rw [lexO_le' (by have := txt_len a Hma.out Ha6.out; omega)]; exact lex_txt a Hma.out Ha6.out
    have htl : (txtT a).length ≤ maxLen := by have := txt_len a Hma.out Ha6.out; unfold maxLen; omega
    have hne := txt_ne a Hma.out Ha6.out
    have heq : txtT a = txtT b ↔ a = b := by
      constructor
      · intro h
        have h2 := print_inj (a := [a]) (b := [b]) (fun t ht => by simp at ht; rw [ht]; exact Hma.out) (fun t ht => by simp at ht; rw [ht]; exact Ha6.out) (fun t ht => by simp at ht; rw [ht]; exact Hmb.out) (fun t ht => by simp at ht; rw [ht]; exact Hb6.out) (by rw [print_one, print_one]; exact h)
        simpa using h2
      · intro h; rw [h]
    clear hHB6 hBa6 hBb6 HbS HB3 HBa3 HBb3
    generalize txtT b = Tb at heq ⊢
    generalize txtT a = Ta at hlx htl hne heq ⊢
    obtain ⟨ca, ra, rfl⟩ : ∃ c r, Ta = c :: r := by
      cases Ta with
      | nil => exact absurd rfl hne
      | cons c r => exact ⟨c, r, rfl⟩
    have Hlx := Lib.hid hlx
    have Heq := Lib.hid heq
    have Htl := Lib.hid htl
    clear hlx heq htl hne
    go_wp2_with fail
    refine (lex_c (ca :: ra) w6 Htl.out (HG.out.after HB6.out)).mono ?_
    rintro e w7 ⟨v, k, rfl, hL, hb7⟩
    rw [Hlx.out] at hL
    obtain ⟨rfl, hown, _⟩ := hL
    obtain ⟨A, cc, rfl, _, _, hs⟩ := hown.sl tOk.len
    have e1 : [a].length = 1 := rfl
    rw [e1]
    have HS7 := Lib.hid hs
    have HB7 := Lib.hid (below_via HB6.out hb7)
    have HBa7 := Lib.hid (HBa6.out.after hb7)
    have HBb7 := Lib.hid (HBb6.out.after hb7)
    clear hown hs hb7 e1 HBa6 HBb6
    obtain ⟨c0, c1, c2, c3, c4, f0, f1, f2, f3, f4, hlt⟩ := HBa7.out.all
    clear f0 f1 f2 f3 f4
    go_wp2_with fail
    refine (tsame_c A (some ⟨w7.heap.size, 0, none⟩) 1 1 cc 1 [a] [a] _ rfl rfl (by decide) (by decide) (HS7.out.alloc _) (SlG.new tOk.len [a] rfl)).mono ?_
    rintro e w8 ⟨rfl, hb8⟩
    rw [decide_eq_true (rfl : [a] = [a])]
    have HB8 := Lib.hid (below_via (below_al HB7.out _) hb8)
    have hb8' := below_via (below_one w7 (.cells #[.int .i64 a.k, .string a.t, .int .i64 a.v.k, .int .i64 a.v.n, .string a.v.s] 35)) hb8
    have HBa8 := Lib.hid (HBa7.out.after hb8')
    have HBb8 := Lib.hid (HBb7.out.after hb8')
    clear hb8 hb8' c0 c1 c2 c3 c4 hlt HBa7 HBb7 HS7
    obtain ⟨c0, c1, c2, c3, c4, f0, f1, f2, f3, f4, hlt⟩ := HBa8.out.all
    obtain ⟨d0, d1, d2, d3, d4, g0, g1, g2, g3, g4, hlt2⟩ := HBb8.out.all
    clear f0 f1 f2 f3 f4 g0 g1 g2 g3 g4
    have hfin : ((ca :: ra == Tb) == a.eq b) = true := by
      rw [beq_iff_eq, Bool.eq_iff_iff, beq_iff_eq, Tk.eq_iff]
      exact Heq.out
    have Hfin := Lib.hid hfin
    clear hfin
    go_wp2
    go_ret
    exact ⟨congrArg (fun z => Ending.returned (Value.bool z)) Hfin.out, HB0.out.trans (HB8.out.mono HB0.out.size)⟩
end Go.Proofs.YtmgmdkagnhmihaaDoor
