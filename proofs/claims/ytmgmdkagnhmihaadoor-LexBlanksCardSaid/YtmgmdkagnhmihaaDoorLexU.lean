/-
  The document's own print of tokens: of at most 300 tokens of 64 bits.
-/
import Derived.Test.YtmgmdkagnhmihaaDoorLexT
import Derived.Test.YtmgmdkagnhmihaaDoorTxt5
namespace Go.Proofs.YtmgmdkagnhmihaaDoor
open Go Go.RowKit
set_option maxRecDepth 100000

theorem join_succ (l : List (List UInt8)) (sep : List UInt8) (k : Nat) (y : List UInt8) (h : l[k]? = some y) : Lib.join (l.take (k + 1)) sep = if k = 0 then y else Lib.join (l.take k) sep ++ sep ++ y := by
  cases l with
  | nil => simp at h
  | cons x r =>
    cases k with
    | zero =>
      simp at h
      rw [if_pos rfl, h]
      simp [Lib.join_one]
    | succ j =>
      rw [if_neg (by omega), List.take_succ_cons, List.take_succ_cons, Lib.join_cons, Lib.join_cons, Lib.joinTail_take_succ sep r j y (by simpa using h)]
      simp [List.append_assoc]
theorem join_take_len (sep : List UInt8) (B : Nat) (l : List (List UInt8)) (k : Nat) (h : ∀ x ∈ l, x.length ≤ B) (hk : k ≤ l.length) : (Lib.join (l.take k) sep).length ≤ l.length * (B + sep.length) := by
  have h1 := join_len sep B (l.take k) (fun x hx => h x (List.mem_of_mem_take hx))
  have h2 : (l.take k).length ≤ l.length := by rw [List.length_take]; omega
  exact Nat.le_trans h1 (Nat.mul_le_mul_right _ h2)
set_option maxHeartbeats 1000000 in
theorem rprint_bad (A : Option Addr) (n c : Nat) (ts : List Tk) (w : World) (hn : ts.length = n) (hn1 : n ≤ 300) (hs : SlG w A 5 rdT ts) (hz : ∀ t ∈ ts, t.t.size ≤ maxLen ∧ t.v.s.size ≤ maxLen) (hb : ts.all mayT = false) :
    Calls Tryd.prog 9 #[.slice A n c] w fun e w' => e = .returned (.string ⟨#[]⟩) ∧ Below w.heap.size w w' := by
  have Ha := Lib.hid (fun w' (h : Below w.heap.size w w') => rall_c A n c ts w' hn (by unfold maxLen; omega) (hs.after h) hz)
  rw [hb] at Ha
  have hn0 : 0 < n := by
    cases ts with
    | nil => simp at hb
    | cons x r => simp at hn; omega
  clear hs hn hz hb
  go_enter Tryd.func9, Tryd.ntmps9
  go_wp2_with fail
  go_loopw [3, 4] (fun s i wr => s = .string ⟨#[]⟩ ∧ i = .int .i64 0 ∧ w = wr) (fun _ _ _ => 0)
  case atStart => exact ⟨rfl, rfl, rfl⟩
  case round =>
    obtain ⟨rfl, rfl, rfl⟩ := hrel
    go_wp2_with fail
    refine (Ha.out w (Below.refl _ _)).mono ?_
    rintro e w1 ⟨rfl, hb1⟩
    go_wp2
    go_ret
    exact ⟨rfl, hb1⟩
set_option maxHeartbeats 1000000 in
theorem rprint_c (A : Option Addr) (n c : Nat) (ts : List Tk) (w : World) (hn : ts.length = n) (hn1 : n ≤ 300) (hs : SlG w A 5 rdT ts) (h6 : ∀ t ∈ ts, T64 t) (hz : ∀ t ∈ ts, t.t.size ≤ maxLen ∧ t.v.s.size ≤ maxLen) :
    Calls Tryd.prog 9 #[.slice A n c] w fun e w' => e = .returned (.string (ba (prtO ts))) ∧ Below w.heap.size w w' := by
  cases hall : ts.all mayT
  · have e : prtO ts = [] := by unfold prtO; rw [hall]; rfl
    rw [e]
    exact rprint_bad A n c ts w hn hn1 hs hz hall
  have eP : prtO ts = printL ts := by unfold prtO; rw [if_pos hall]
  have Ha := Lib.hid (fun w' (h : Below w.heap.size w w') => rall_c A n c ts w' hn (by unfold maxLen; omega) (hs.after h) hz)
  rw [hall] at Ha
  have Hall := Lib.hid (List.all_eq_true.1 hall)
  obtain ⟨R, hR⟩ : ∃ R, prtO ts = R := ⟨_, rfl⟩
  rw [hR]
  rw [eP] at hR
  have HR := Lib.hid hR
  have Hs := Lib.hid hs
  have Hn := Lib.hid hn
  have H6 := Lib.hid h6
  have htl : ∀ x ∈ ts.map txtT, x.length ≤ 5000 := fun x hx => by
    obtain ⟨t, ht, rfl⟩ := List.mem_map.1 hx
    exact txt_len t (Hall.out t ht) (h6 t ht)
  have Htl := Lib.hid htl
  clear hs hn h6 hz hR eP hall htl
  go_enter Tryd.func9, Tryd.ntmps9
  go_wp2_with fail
  go_loopw [3, 4] (fun s i wr => ∃ k : Nat, k ≤ n ∧ i = .int .i64 k ∧ s = .string (ba (Lib.join ((ts.map txtT).take k) [32])) ∧ Hid (Below w.heap.size w wr)) (fun _ i _ => n - (intOf i).toNat)
  case atStart => exact ⟨0, Nat.zero_le _, rfl, by rw [List.take_zero]; rfl, Below.refl _ _⟩
  case round =>
    obtain ⟨k, hk, rfl, rfl, hb⟩ := hrel
    by_cases hlt : k < n
    · obtain ⟨b, off, x, rfl, hblt, hx, c0, c1, c2, c3, c4⟩ := Hs.out.at5 (by rw [Hn.out]; exact hlt)
      have Hx := Lib.hid hx
      have hxm : (ts.map txtT)[k]? = some (txtT x) := by rw [List.getElem?_map, hx]; rfl
      have Hsu := Lib.hid (join_succ _ [32] k _ hxm)
      have hl1 := join_take_len [32] 5000 (ts.map txtT) k Htl.out (by rw [List.length_map, Hn.out]; exact hk)
      rw [List.length_map, Hn.out] at hl1
      simp only [List.length_cons, List.length_nil] at hl1
      have hl2 : (txtT x).length ≤ 5000 := Htl.out _ (List.mem_of_getElem? hxm)
      have hS0 : k = 0 → Lib.join ((ts.map txtT).take k) [32] = [] := by rintro rfl; rw [List.take_zero]; rfl
      have HS0 := Lib.hid hS0
      clear hS0
      generalize Lib.join ((ts.map txtT).take k) [32] = S at Hsu hl1 HS0 ⊢
      have HC := Lib.hid (⟨c0, c1, c2, c3, c4⟩ : _ ∧ _ ∧ _ ∧ _ ∧ _)
      clear c0 c1 c2 c3 c4 hx hxm
      have Hblt := Lib.hid hblt
      have HHl := Lib.hid (And.intro hl1 hl2)
      clear hblt hl1 hl2
      go_wp2_with fail
      refine (Ha.out wr hb.out).mono ?_
      rintro e w1 ⟨rfl, hb1⟩
      have Hb2 := Lib.hid (hb.out.trans (hb1.mono hb.out.size))
      obtain ⟨c0, c1, c2, c3, c4⟩ := HC.out
      have d0 := (Hb2.out.cell (p := ⟨b, off + k * 5, none⟩) Hblt.out).trans c0
      have d1 := (Hb2.out.cell (p := ⟨b, off + k * 5 + 1, none⟩) Hblt.out).trans c1
      have d2 := (Hb2.out.cell (p := ⟨b, off + k * 5 + 2, none⟩) Hblt.out).trans c2
      have d3 := (Hb2.out.cell (p := ⟨b, off + k * 5 + 3, none⟩) Hblt.out).trans c3
      have d4 := (Hb2.out.cell (p := ⟨b, off + k * 5 + 4, none⟩) Hblt.out).trans c4
      have l1 : b < w1.heap.size := Nat.lt_of_lt_of_le Hblt.out Hb2.out.size
      clear hb1 c0 c1 c2 c3 c4
      have ec1 : ∀ w, (Op.stringOp .add (ba S) ⟨#[32]⟩).run Tryd.prog w = .ok (.string (ba (S ++ [32]))) w := fun w => cat_run w S [32] (by have := HHl.out.1; simp only [List.length_cons, List.length_nil]; omega)
      have ec2 : ∀ w, (Op.stringOp .add (ba (S ++ [32])) (ba (txtT x))).run Tryd.prog w = .ok (.string (ba (S ++ [32] ++ txtT x))) w := fun w => cat_run w (S ++ [32]) (txtT x) (by have := HHl.out; simp only [List.length_append, List.length_cons, List.length_nil]; omega)
      have ec3 : ∀ w, (Op.stringOp .add (ba S) (ba (txtT x))).run Tryd.prog w = .ok (.string (ba (S ++ txtT x))) w := fun w => cat_run w S (txtT x) (by have := HHl.out; omega)
      by_cases hk1 : x.k = 1
      · have hkb : (x.k == 1) = true := by simpa using hk1
        have hm := may_size x (Hall.out x (List.mem_of_getElem? Hx.out)) hkb
        have et : txtT x = textL x.v := by unfold txtT; rw [if_pos hkb]
        have Ht := Lib.hid (rtextV_c x.v w1 (H6.out x (List.mem_of_getElem? Hx.out)) hm.1)
        rw [← et] at Ht
        generalize txtT x = T at *
        clear hm et
        by_cases hk0 : k = 0
        · have hSS := HS0.out hk0
          subst hSS
          rw [if_pos hk0] at Hsu
          have hkn : ¬ (0 < (k : Int)) := by omega
          clear ec1 ec2 hk0
          go_wp2_with fail
          refine Ht.out.mono ?_
          rintro e w2 ⟨rfl, hb3⟩
          have Hb3 := Lib.hid (Hb2.out.trans (hb3.mono Hb2.out.size))
          clear hb3 d0 d1 d2 d3 d4
          go_wp2
          go_roundw
          case rel => exact ⟨k + 1, by omega, by go_num, by rw [Hsu.out], Hb3⟩
          case measure => simp [intOf]; omega
        · rw [if_neg hk0] at Hsu
          have hkpos : 0 < (k : Int) := by omega
          clear ec3
          go_wp2_with fail
          refine Ht.out.mono ?_
          rintro e w2 ⟨rfl, hb3⟩
          have Hb3 := Lib.hid (Hb2.out.trans (hb3.mono Hb2.out.size))
          clear hb3 d0 d1 d2 d3 d4
          go_wp2
          go_roundw
          case rel => exact ⟨k + 1, by omega, by go_num, by rw [Hsu.out, List.append_assoc]; rfl, Hb3⟩
          case measure => simp [intOf]; omega
      · have hkb : (x.k == 1) = false := by simpa using hk1
        have et : x.t = ba (txtT x) := by unfold txtT; rw [if_neg (by rw [hkb]; decide), ba_of]
        rw [et] at d1
        generalize txtT x = T at *
        clear et
        by_cases hk0 : k = 0
        · have hSS := HS0.out hk0
          subst hSS
          rw [if_pos hk0] at Hsu
          have hkn : ¬ (0 < (k : Int)) := by omega
          clear ec1 ec2 hk0
          go_wp2
          go_roundw
          case rel => exact ⟨k + 1, by omega, by go_num, by rw [Hsu.out], Hb2⟩
          case measure => simp [intOf]; omega
        · rw [if_neg hk0] at Hsu
          have hkpos : 0 < (k : Int) := by omega
          clear ec3
          go_wp2
          go_roundw
          case rel => exact ⟨k + 1, by omega, by go_num, by rw [Hsu.out, List.append_assoc]; rfl, Hb2⟩
          case measure => simp [intOf]; omega
    · obtain rfl : k = n := by omega
      have hT : (ts.map txtT).take k = ts.map txtT := List.take_of_length_le (by rw [List.length_map, Hn.out]; omega)
      rw [hT]
      have hR2 : Lib.join (ts.map txtT) [32] = R := HR.out
      rw [hR2]
      clear hT hR2 HR
      go_wp2
      go_ret
      exact ⟨rfl, hb.out⟩
end Go.Proofs.YtmgmdkagnhmihaaDoor
