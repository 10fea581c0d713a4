/-
  The law LexBack, walked: of any tokens and any text it answers true, and turns nothing that was there.
-/
import Derived.Test.YtmgmdkagnhmihaaDoorLexV
namespace Go.Proofs.YtmgmdkagnhmihaaDoor
open Go Go.RowKit
set_option maxRecDepth 100000

theorem prtO_may {ts : List Tk} (h : ∀ t ∈ ts, mayT t = true) : prtO ts = printL ts := by unfold prtO; rw [if_pos (List.all_eq_true.2 h)]
theorem lexO_some {l : List UInt8} {a : List Tk} (h : lexO l = some a) : l.length ≤ 20000 ∧ lexL l = some a := by
  unfold lexO at h
  split at h
  · rename_i hl; exact ⟨hl, h⟩
  · cases h
theorem ba_size' (l : List UInt8) : (ba l).size = l.length := by show l.toArray.size = _; simp
theorem prt_len {ts : List Tk} (h6 : ∀ t ∈ ts, T64 t) (hl : ts.length ≤ 20000) : (prtO ts).length ≤ 200000000 := by
  unfold prtO
  split
  · rename_i h
    have hm := List.all_eq_true.1 h
    have := join_len [32] 5000 (ts.map txtT) (fun x hx => by obtain ⟨t, ht, rfl⟩ := List.mem_map.1 hx; exact txt_len t (hm t ht) (h6 t ht))
    rw [List.length_map] at this
    simp only [List.length_cons, List.length_nil] at this
    show (Lib.join (ts.map txtT) [32]).length ≤ _
    omega
  · simp
theorem lexO_le' {l : List UInt8} (h : l.length ≤ 20000) : lexO l = lexL l := by unfold lexO; rw [if_pos h]
set_option maxHeartbeats 1000000 in
theorem back_w (A : Option Addr) (n c : Nat) (ts : List Tk) (s : List UInt8) (w : World) (hn : ts.length = n) (hmx : n ≤ maxLen) (hs : SlG w A 5 rdT ts) (h6 : ∀ t ∈ ts, T64 t) (hz : ∀ t ∈ ts, t.t.size ≤ maxLen ∧ t.v.s.size ≤ maxLen) (hsl : s.length ≤ maxLen) (hG : GL w) :
    Calls Tryd.prog 3 #[.slice A n c, .string (ba s)] w fun e w' => e = .returned (.bool true) ∧ Below w.heap.size w w' := by
  unfold maxLen at hsl hmx
  have HG := Lib.hid hG
  have Hn := Lib.hid hn
  have Hs := Lib.hid hs
  have H6 := Lib.hid h6
  have Hz := Lib.hid hz
  clear hG hn hs h6 hz
  by_cases h1 : n ≤ 300
  case neg =>
    have h3 : 300 < (n : Int) := by omega
    go_enter Tryd.func3, Tryd.ntmps3
    go_wp2_with fail
    refine (fixed_c w HG.out).mono ?_
    rintro e w1 ⟨rfl, hb1⟩
    have HB1 := Lib.hid hb1
    clear hb1
    go_wp2_with fail
    refine (fixed_c w1 (HG.out.after HB1.out)).mono ?_
    rintro e w2 ⟨rfl, hb2⟩
    have HB2 := Lib.hid (below_via HB1.out hb2)
    clear hb2
    go_wp2
    go_ret
    exact ⟨rfl, HB2.out⟩
  by_cases h2 : s.length ≤ 3000
  case neg =>
    have h3 : 3000 < (s.length : Int) := by omega
    go_enter Tryd.func3, Tryd.ntmps3
    go_wp2_with fail
    refine (fixed_c w HG.out).mono ?_
    rintro e w1 ⟨rfl, hb1⟩
    have HB1 := Lib.hid hb1
    clear hb1
    go_wp2_with fail
    refine (fixed_c w1 (HG.out.after HB1.out)).mono ?_
    rintro e w2 ⟨rfl, hb2⟩
    have HB2 := Lib.hid (below_via HB1.out hb2)
    clear hb2
    go_wp2
    go_ret
    exact ⟨rfl, HB2.out⟩
  go_enter Tryd.func3, Tryd.ntmps3
  go_wp2_with fail
  refine (fixed_c w HG.out).mono ?_
  rintro e w1 ⟨rfl, hb1⟩
  have HB1 := Lib.hid hb1
  have Hs1 := Lib.hid (Hs.out.after hb1)
  clear hb1
  go_wp2_with fail
  refine (rall_c A n c ts w1 Hn.out (by unfold maxLen; omega) Hs1.out Hz.out).mono ?_
  rintro e w2 ⟨rfl, hb2⟩
  have HB2 := Lib.hid (below_via HB1.out hb2)
  have Hs2 := Lib.hid (Hs1.out.after hb2)
  clear hb2 Hs1
  cases ha : ts.all mayT
  · clear ha
    go_wp2_with fail
    refine (lex_c s w2 (by unfold maxLen; omega) (HG.out.after HB2.out)).mono ?_
    rintro e w5 ⟨v, k, rfl, hL, hb5⟩
    rw [lexO_le' (Nat.le_trans h2 (by decide))] at hL
    have HB5 := Lib.hid (below_via HB2.out hb5)
    clear hb5
    cases hb : lexL s with
    | none =>
      rw [hb] at hL
      obtain ⟨rfl, rfl⟩ := hL
      clear hb
      go_wp2
      go_ret
      exact ⟨rfl, HB5.out⟩
    | some b =>
      rw [hb] at hL
      obtain ⟨rfl, hob, hbl⟩ := hL
      obtain ⟨B, cb, rfl, _, _, hsb⟩ := hob.sl tOk.len
      obtain ⟨hm, hb6, hbz⟩ := lex_facts hb
      have Hm := Lib.hid hm
      have Hb6 := Lib.hid hb6
      have Hbz := Lib.hid hbz
      have HS5 := Lib.hid hsb
      have hlp : lexL (prtO b) = some b := by rw [prtO_may hm]; exact lex_print b hm hb6
      have hpl := prt_len hb6 hbl
      obtain ⟨nb, hnb⟩ : ∃ n, b.length = n := ⟨_, rfl⟩
      rw [hnb] at hbl ⊢
      have Hnb := Lib.hid hnb
      obtain ⟨Q, hQ⟩ : ∃ Q, prtO b = Q := ⟨_, rfl⟩
      rw [hQ] at hlp hpl
      have HQ := Lib.hid hQ
      have Hlp := Lib.hid hlp
      clear hb hob hm hb6 hbz hsb hlp hnb hQ
      go_wp2_with fail
      refine (print_c B nb cb b w5 Hnb.out hbl HS5.out Hb6.out Hbz.out (HG.out.after HB5.out)).mono ?_
      rintro e w6 ⟨rfl, hb6⟩
      rw [HQ.out]
      have HS6 := Lib.hid (HS5.out.after hb6)
      have HB6 := Lib.hid (below_via HB5.out hb6)
      clear hb6 HS5
      go_wp2_with fail
      refine (lex_c Q w6 (by unfold maxLen; omega) (HG.out.after HB6.out)).mono ?_
      rintro e w7 ⟨v2, k2, rfl, hL2, hb7⟩
      have HS7 := Lib.hid (HS6.out.after hb7)
      have HB7 := Lib.hid (below_via HB6.out hb7)
      clear hb7 HS6
      by_cases hq : Q.length ≤ 20000
      · rw [lexO_le' hq, Hlp.out] at hL2
        obtain ⟨rfl, hoc, _⟩ := hL2
        obtain ⟨C, cc, rfl, _, _, hsc⟩ := hoc.sl tOk.len
        rw [Hnb.out]
        have HC7 := Lib.hid hsc
        clear hoc hsc
        go_wp2_with fail
        refine (rall_c B nb cb b w7 Hnb.out (by unfold maxLen; omega) HS7.out Hbz.out).mono ?_
        rintro e w8 ⟨rfl, hb8⟩
        rw [List.all_eq_true.2 Hm.out]
        have HS8 := Lib.hid (HS7.out.after hb8)
        have HC8 := Lib.hid (HC7.out.after hb8)
        have HB8 := Lib.hid (below_via HB7.out hb8)
        clear hb8 HS7 HC7
        go_wp2_with fail
        refine (print_c B nb cb b w8 Hnb.out hbl HS8.out Hb6.out Hbz.out (HG.out.after HB8.out)).mono ?_
        rintro e w9 ⟨rfl, hb9⟩
        rw [HQ.out]
        have HS9 := Lib.hid (HS8.out.after hb9)
        have HC9 := Lib.hid (HC8.out.after hb9)
        have HB9 := Lib.hid (below_via HB8.out hb9)
        clear hb9 HS8 HC8
        go_wp2_with fail
        refine (tsame_c B C nb nb cb cc b b w9 Hnb.out Hnb.out (by unfold maxLen; omega) (by unfold maxLen; omega) HS9.out HC9.out).mono ?_
        rintro e w10 ⟨rfl, hb10⟩
        rw [decide_eq_true (rfl : b = b)]
        have HB10 := Lib.hid (below_via HB9.out hb10)
        clear hb10
        go_wp2
        go_ret
        exact ⟨rfl, HB10.out⟩
      · have eO : lexO Q = none := by unfold lexO; rw [if_neg hq]
        rw [eO] at hL2
        obtain ⟨rfl, rfl⟩ := hL2
        have hq2 : 20000 < (Q.length : Int) := by omega
        clear eO
        go_wp2_with fail
        refine (rall_c B nb cb b w7 Hnb.out (by unfold maxLen; omega) HS7.out Hbz.out).mono ?_
        rintro e w8 ⟨rfl, hb8⟩
        rw [List.all_eq_true.2 Hm.out]
        have HS8 := Lib.hid (HS7.out.after hb8)
        have HB8 := Lib.hid (below_via HB7.out hb8)
        clear hb8 HS7
        go_wp2_with fail
        refine (print_c B nb cb b w8 Hnb.out hbl HS8.out Hb6.out Hbz.out (HG.out.after HB8.out)).mono ?_
        rintro e w9 ⟨rfl, hb9⟩
        rw [HQ.out]
        have HB9 := Lib.hid (below_via HB8.out hb9)
        clear hb9 HS8
        go_wp2
        go_ret
        exact ⟨rfl, HB9.out⟩
  · have Ha := Lib.hid (List.all_eq_true.1 ha)
    clear ha
    go_wp2_with fail
    refine (rprint_c A n c ts w2 Hn.out h1 Hs2.out H6.out Hz.out).mono ?_
    rintro e w3 ⟨rfl, hb3⟩
    have HB3 := Lib.hid (below_via HB2.out hb3)
    have Hs3 := Lib.hid (Hs2.out.after hb3)
    clear hb3 Hs2
    have hlp0 : lexL (prtO ts) = some ts := by rw [prtO_may Ha.out]; exact lex_print ts Ha.out H6.out
    have hpl0 := prt_len H6.out (by rw [Hn.out]; omega)
    obtain ⟨P, hP⟩ : ∃ P, prtO ts = P := ⟨_, rfl⟩
    rw [hP] at hlp0 hpl0 ⊢
    have HP := Lib.hid hP
    have Hlp0 := Lib.hid hlp0
    clear hP hlp0
    by_cases hp : P.length ≤ 20000
    · go_wp2_with fail
      refine (print_c A n c ts w3 Hn.out (by omega) Hs3.out H6.out Hz.out (HG.out.after HB3.out)).mono ?_
      rintro e w4 ⟨rfl, hb4⟩
      rw [HP.out]
      have HB4 := Lib.hid (below_via HB3.out hb4)
      have Hs4 := Lib.hid (Hs3.out.after hb4)
      clear hb4 Hs3
      go_wp2_with fail
      refine (lex_c P w4 (by unfold maxLen; omega) (HG.out.after HB4.out)).mono ?_
      rintro e wa ⟨v0, k0, rfl, hL0, hba⟩
      rw [lexO_le' hp, Hlp0.out] at hL0
      obtain ⟨rfl, hod, _⟩ := hL0
      obtain ⟨D, cd, rfl, _, _, hsd⟩ := hod.sl tOk.len
      rw [Hn.out]
      have HBa := Lib.hid (below_via HB4.out hba)
      have Hsa := Lib.hid (Hs4.out.after hba)
      have HDa := Lib.hid hsd
      clear hba hod hsd Hs4
      go_wp2_with fail
      refine (tsame_c D A n n cd c ts ts wa Hn.out Hn.out (by unfold maxLen; omega) (by unfold maxLen; omega) HDa.out Hsa.out).mono ?_
      rintro e wb ⟨rfl, hbb⟩
      rw [decide_eq_true (rfl : ts = ts)]
      have HBb := Lib.hid (below_via HBa.out hbb)
      clear hbb HDa Hsa
      go_wp2_with fail
      refine (lex_c s wb (by unfold maxLen; omega) (HG.out.after HBb.out)).mono ?_
      rintro e w5 ⟨v, k, rfl, hL, hb5⟩
      rw [lexO_le' (Nat.le_trans h2 (by decide))] at hL
      have HB5 := Lib.hid (below_via HBb.out hb5)
      clear hb5
      cases hb : lexL s with
      | none =>
        rw [hb] at hL
        obtain ⟨rfl, rfl⟩ := hL
        clear hb
        go_wp2
        go_ret
        exact ⟨rfl, HB5.out⟩
      | some b =>
        rw [hb] at hL
        obtain ⟨rfl, hob, hbl⟩ := hL
        obtain ⟨B, cb, rfl, _, _, hsb⟩ := hob.sl tOk.len
        obtain ⟨hm, hb6, hbz⟩ := lex_facts hb
        have Hm := Lib.hid hm
        have Hb6 := Lib.hid hb6
        have Hbz := Lib.hid hbz
        have HS5 := Lib.hid hsb
        have hlp : lexL (prtO b) = some b := by rw [prtO_may hm]; exact lex_print b hm hb6
        have hpl := prt_len hb6 hbl
        obtain ⟨nb, hnb⟩ : ∃ n, b.length = n := ⟨_, rfl⟩
        rw [hnb] at hbl ⊢
        have Hnb := Lib.hid hnb
        obtain ⟨Q, hQ⟩ : ∃ Q, prtO b = Q := ⟨_, rfl⟩
        rw [hQ] at hlp hpl
        have HQ := Lib.hid hQ
        have Hlp := Lib.hid hlp
        clear hb hob hm hb6 hbz hsb hlp hnb hQ
        go_wp2_with fail
        refine (print_c B nb cb b w5 Hnb.out hbl HS5.out Hb6.out Hbz.out (HG.out.after HB5.out)).mono ?_
        rintro e w6 ⟨rfl, hb6⟩
        rw [HQ.out]
        have HS6 := Lib.hid (HS5.out.after hb6)
        have HB6 := Lib.hid (below_via HB5.out hb6)
        clear hb6 HS5
        go_wp2_with fail
        refine (lex_c Q w6 (by unfold maxLen; omega) (HG.out.after HB6.out)).mono ?_
        rintro e w7 ⟨v2, k2, rfl, hL2, hb7⟩
        have HS7 := Lib.hid (HS6.out.after hb7)
        have HB7 := Lib.hid (below_via HB6.out hb7)
        clear hb7 HS6
        by_cases hq : Q.length ≤ 20000
        · rw [lexO_le' hq, Hlp.out] at hL2
          obtain ⟨rfl, hoc, _⟩ := hL2
          obtain ⟨C, cc, rfl, _, _, hsc⟩ := hoc.sl tOk.len
          rw [Hnb.out]
          have HC7 := Lib.hid hsc
          clear hoc hsc
          go_wp2_with fail
          refine (rall_c B nb cb b w7 Hnb.out (by unfold maxLen; omega) HS7.out Hbz.out).mono ?_
          rintro e w8 ⟨rfl, hb8⟩
          rw [List.all_eq_true.2 Hm.out]
          have HS8 := Lib.hid (HS7.out.after hb8)
          have HC8 := Lib.hid (HC7.out.after hb8)
          have HB8 := Lib.hid (below_via HB7.out hb8)
          clear hb8 HS7 HC7
          go_wp2_with fail
          refine (print_c B nb cb b w8 Hnb.out hbl HS8.out Hb6.out Hbz.out (HG.out.after HB8.out)).mono ?_
          rintro e w9 ⟨rfl, hb9⟩
          rw [HQ.out]
          have HS9 := Lib.hid (HS8.out.after hb9)
          have HC9 := Lib.hid (HC8.out.after hb9)
          have HB9 := Lib.hid (below_via HB8.out hb9)
          clear hb9 HS8 HC8
          go_wp2_with fail
          refine (tsame_c B C nb nb cb cc b b w9 Hnb.out Hnb.out (by unfold maxLen; omega) (by unfold maxLen; omega) HS9.out HC9.out).mono ?_
          rintro e w10 ⟨rfl, hb10⟩
          rw [decide_eq_true (rfl : b = b)]
          have HB10 := Lib.hid (below_via HB9.out hb10)
          clear hb10
          go_wp2
          go_ret
          exact ⟨rfl, HB10.out⟩
        · have eO : lexO Q = none := by unfold lexO; rw [if_neg hq]
          rw [eO] at hL2
          obtain ⟨rfl, rfl⟩ := hL2
          have hq2 : 20000 < (Q.length : Int) := by omega
          clear eO
          go_wp2_with fail
          refine (rall_c B nb cb b w7 Hnb.out (by unfold maxLen; omega) HS7.out Hbz.out).mono ?_
          rintro e w8 ⟨rfl, hb8⟩
          rw [List.all_eq_true.2 Hm.out]
          have HS8 := Lib.hid (HS7.out.after hb8)
          have HB8 := Lib.hid (below_via HB7.out hb8)
          clear hb8 HS7
          go_wp2_with fail
          refine (print_c B nb cb b w8 Hnb.out hbl HS8.out Hb6.out Hbz.out (HG.out.after HB8.out)).mono ?_
          rintro e w9 ⟨rfl, hb9⟩
          rw [HQ.out]
          have HB9 := Lib.hid (below_via HB8.out hb9)
          clear hb9 HS8
          go_wp2
          go_ret
          exact ⟨rfl, HB9.out⟩
    · have hp2 : 20000 < (P.length : Int) := by omega
      go_wp2_with fail
      refine (lex_c s w3 (by unfold maxLen; omega) (HG.out.after HB3.out)).mono ?_
      rintro e w5 ⟨v, k, rfl, hL, hb5⟩
      rw [lexO_le' (Nat.le_trans h2 (by decide))] at hL
      have HB5 := Lib.hid (below_via HB3.out hb5)
      clear hb5
      cases hb : lexL s with
      | none =>
        rw [hb] at hL
        obtain ⟨rfl, rfl⟩ := hL
        clear hb
        go_wp2
        go_ret
        exact ⟨rfl, HB5.out⟩
      | some b =>
        rw [hb] at hL
        obtain ⟨rfl, hob, hbl⟩ := hL
        obtain ⟨B, cb, rfl, _, _, hsb⟩ := hob.sl tOk.len
        obtain ⟨hm, hb6, hbz⟩ := lex_facts hb
        have Hm := Lib.hid hm
        have Hb6 := Lib.hid hb6
        have Hbz := Lib.hid hbz
        have HS5 := Lib.hid hsb
        have hlp : lexL (prtO b) = some b := by rw [prtO_may hm]; exact lex_print b hm hb6
        have hpl := prt_len hb6 hbl
        obtain ⟨nb, hnb⟩ : ∃ n, b.length = n := ⟨_, rfl⟩
        rw [hnb] at hbl ⊢
        have Hnb := Lib.hid hnb
        obtain ⟨Q, hQ⟩ : ∃ Q, prtO b = Q := ⟨_, rfl⟩
        rw [hQ] at hlp hpl
        have HQ := Lib.hid hQ
        have Hlp := Lib.hid hlp
        clear hb hob hm hb6 hbz hsb hlp hnb hQ
        go_wp2_with fail
        refine (print_c B nb cb b w5 Hnb.out hbl HS5.out Hb6.out Hbz.out (HG.out.after HB5.out)).mono ?_
        rintro e w6 ⟨rfl, hb6⟩
        rw [HQ.out]
        have HS6 := Lib.hid (HS5.out.after hb6)
        have HB6 := Lib.hid (below_via HB5.out hb6)
        clear hb6 HS5
        go_wp2_with fail
        refine (lex_c Q w6 (by unfold maxLen; omega) (HG.out.after HB6.out)).mono ?_
        rintro e w7 ⟨v2, k2, rfl, hL2, hb7⟩
        have HS7 := Lib.hid (HS6.out.after hb7)
        have HB7 := Lib.hid (below_via HB6.out hb7)
        clear hb7 HS6
        by_cases hq : Q.length ≤ 20000
        · rw [lexO_le' hq, Hlp.out] at hL2
          obtain ⟨rfl, hoc, _⟩ := hL2
          obtain ⟨C, cc, rfl, _, _, hsc⟩ := hoc.sl tOk.len
          rw [Hnb.out]
          have HC7 := Lib.hid hsc
          clear hoc hsc
          go_wp2_with fail
          refine (rall_c B nb cb b w7 Hnb.out (by unfold maxLen; omega) HS7.out Hbz.out).mono ?_
          rintro e w8 ⟨rfl, hb8⟩
          rw [List.all_eq_true.2 Hm.out]
          have HS8 := Lib.hid (HS7.out.after hb8)
          have HC8 := Lib.hid (HC7.out.after hb8)
          have HB8 := Lib.hid (below_via HB7.out hb8)
          clear hb8 HS7 HC7
          go_wp2_with fail
          refine (print_c B nb cb b w8 Hnb.out hbl HS8.out Hb6.out Hbz.out (HG.out.after HB8.out)).mono ?_
          rintro e w9 ⟨rfl, hb9⟩
          rw [HQ.out]
          have HS9 := Lib.hid (HS8.out.after hb9)
          have HC9 := Lib.hid (HC8.out.after hb9)
          have HB9 := Lib.hid (below_via HB8.out hb9)
          clear hb9 HS8 HC8
          go_wp2_with fail
          refine (tsame_c B C nb nb cb cc b b w9 Hnb.out Hnb.out (by unfold maxLen; omega) (by unfold maxLen; omega) HS9.out HC9.out).mono ?_
          rintro e w10 ⟨rfl, hb10⟩
          rw [decide_eq_true (rfl : b = b)]
          have HB10 := Lib.hid (below_via HB9.out hb10)
          clear hb10
          go_wp2
          go_ret
          exact ⟨rfl, HB10.out⟩
        · have eO : lexO Q = none := by unfold lexO; rw [if_neg hq]
          rw [eO] at hL2
          obtain ⟨rfl, rfl⟩ := hL2
          have hq2 : 20000 < (Q.length : Int) := by omega
          clear eO
          go_wp2_with fail
          refine (rall_c B nb cb b w7 Hnb.out (by unfold maxLen; omega) HS7.out Hbz.out).mono ?_
          rintro e w8 ⟨rfl, hb8⟩
          rw [List.all_eq_true.2 Hm.out]
          have HS8 := Lib.hid (HS7.out.after hb8)
          have HB8 := Lib.hid (below_via HB7.out hb8)
          clear hb8 HS7
          go_wp2_with fail
          refine (print_c B nb cb b w8 Hnb.out hbl HS8.out Hb6.out Hbz.out (HG.out.after HB8.out)).mono ?_
          rintro e w9 ⟨rfl, hb9⟩
          rw [HQ.out]
          have HB9 := Lib.hid (below_via HB8.out hb9)
          clear hb9 HS8
          go_wp2
          go_ret
          exact ⟨rfl, HB9.out⟩
end Go.Proofs.YtmgmdkagnhmihaaDoor
