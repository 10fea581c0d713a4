/-
  The tokens of every text, as the program reads them.
-/
import Derived.Test.YtmgmdkagnhmihaaDoorLexF
namespace Go.Proofs.YtmgmdkagnhmihaaDoor
open Go Go.RowKit
set_option maxRecDepth 100000

/-- A token's cells in a list. -/
def rdT (t : Tk) : List Value := [.int .i64 t.k, .string t.t, .int .i64 t.v.k, .int .i64 t.v.n, .string t.v.s]
theorem tOk : ElOk Tryd.prog 22 35 5 56 tk0.val rdT where
  under := Tryd.underlying22
  info := by kernel_rfl
  zs := rfl
  pos := by decide
  len := fun _ => rfl
  one := fun x u hu => by
    simp [rdT] at hu
    rcases hu with rfl | rfl | rfl | rfl | rfl <;> rfl
/-- The tokens of a text, if it is not too long. -/
def lexO (l : List UInt8) : Option (List Tk) := if l.length ≤ 20000 then lexL l else none
/-- What Lex tells. -/
def LexS (o : Option (List Tk)) (v : Value) (n : Int) (B : Nat) (w : World) : Prop := match o with
  | none => v = .slice none 0 0 ∧ n = 60
  | some ts => n = 0 ∧ OwnG w B 35 5 rdT v ts ∧ ts.length ≤ 20000
theorem quo_len : ∀ (l : List UInt8) (b : Bool) (u r : List UInt8), quoF b l = some (u, r) → u.length ≤ l.length
  | [], false, u, r, h => by simp [quoF] at h
  | [], true, u, r, h => by simp [quoF] at h; simp [h.1]
  | c :: l, false, u, r, h => by
    rw [quoF] at h
    split at h
    · have := quo_len l true u r h; simp; omega
    · cases e : quoF false l with
      | none => rw [e] at h; cases h
      | some p =>
        rw [e] at h
        simp at h
        have := quo_len l false p.1 p.2 e
        rw [← h.1]; simp; omega
  | c :: l, true, u, r, h => by
    rw [quoF] at h
    split at h
    · cases e : quoF false l with
      | none => rw [e] at h; cases h
      | some p =>
        rw [e] at h
        simp at h
        have := quo_len l false p.1 p.2 e
        rw [← h.1]; simp; omega
    · simp at h; rw [h.1]; simp
theorem num_size {w : List UInt8} {t : Tk} (h : numT w = some t) : t.t.size = 0 ∧ t.v.s.size = 0 := by
  unfold numT at h
  split at h
  · split at h
    · simp only [Option.some.injEq] at h
      subst h
      exact ⟨rfl, rfl⟩
    · cases h
  · cases h
theorem ba_size (l : List UInt8) : (ba l).size = l.length := by show l.toArray.size = _; simp
theorem tok_size {l : List UInt8} {t : Tk} {r : List UInt8} (h : tokL l = some (t, r)) : t.t.size ≤ l.length ∧ t.v.s.size ≤ l.length := by
  cases l with
  | nil => cases h
  | cons c l =>
    rw [tokL] at h
    split at h
    · simp only [Option.some.injEq, Prod.mk.injEq] at h
      rw [← h.1]
      refine ⟨?_, Nat.zero_le _⟩
      show (ba _).size ≤ _
      rw [ba_size]
      exact tw_le inn (c :: l)
    split at h
    · cases e : numT ((c :: l).takeWhile dig) with
      | none => rw [e] at h; cases h
      | some q =>
        rw [e] at h
        simp only [Option.map_some, Option.some.injEq, Prod.mk.injEq] at h
        obtain ⟨h1, h2⟩ := num_size e
        rw [← h.1, h1, h2]; simp
    split at h
    · cases e : quoF false l with
      | none => rw [e] at h; cases h
      | some q =>
        rw [e] at h
        simp only [Option.map_some, Option.some.injEq, Prod.mk.injEq] at h
        rw [← h.1]
        refine ⟨Nat.zero_le _, ?_⟩
        show (ba _).size ≤ _
        rw [ba_size]
        have := quo_len l false q.1 q.2 e
        simp; omega
    split at h
    · split at h
      · simp only [Option.some.injEq, Prod.mk.injEq] at h
        rw [← h.1]
        refine ⟨?_, Nat.zero_le _⟩
        show 1 ≤ _
        simp
      · cases e : numT (c :: l.takeWhile dig) with
        | none => rw [e] at h; cases h
        | some q =>
          rw [e] at h
          simp only [Option.map_some, Option.some.injEq, Prod.mk.injEq] at h
          obtain ⟨h1, h2⟩ := num_size e
          rw [← h.1, h1, h2]; simp
    split at h
    · simp only [Option.some.injEq, Prod.mk.injEq] at h
      rw [← h.1]
      refine ⟨?_, Nat.zero_le _⟩
      show 1 ≤ _
      simp
    · cases h
/-- Where the reading of a text stands: the reader in block b has l left, behind blanks; ts has been read. -/
structure LI (w0 : World) (b : Nat) (l0 : List UInt8) (v : Value) (w : World) (l : List UInt8) (ts : List Tk) : Prop where
  rd : Rd w b l
  hd : l = [] ∨ ∃ c r, l = c :: r ∧ cls c ≠ 1
  own : OwnG w (b + 1) 35 5 rdT v ts
  lex : lexL l0 = (lexL l).map (ts ++ ·)
  gl : GL w
  blw : Below b w0 w
  len : ts.length + l.length ≤ 20000
theorem OwnG.stp {w w' : World} {b : Nat} {r : List UInt8} {v : Value} {ts : List Tk} (h : OwnG w (b + 1) 35 5 rdT v ts) (hs : Stp w w' b r) : OwnG w' (b + 1) 35 5 rdT v ts :=
  h.same fun k hk => hs.block k (h.lt k hk).2 (by have := (h.lt k hk).1; omega)
set_option maxHeartbeats 1000000 in
theorem lex_c (l : List UInt8) (w : World) (hl : l.length ≤ maxLen) (hG : GL w) :
    Calls Tryd.prog 10 #[.string (ba l)] w fun e w' => ∃ v n, e = .returned (.tuple #[v, .int .i64 n]) ∧ LexS (lexO l) v n w.heap.size w' ∧ Below w.heap.size w w' := by
  unfold maxLen at hl
  by_cases h2 : l.length ≤ 20000
  · have eO : lexO l = lexL l := by unfold lexO; rw [if_pos h2]
    rw [eO]
    obtain ⟨Out, hOut⟩ : ∃ Out : Value → Int → Nat → World → Prop, LexS (lexL l) = Out := ⟨_, rfl⟩
    rw [hOut]
    have HO := Lib.hid hOut
    have HG := Lib.hid hG
    have HGt := Lib.hid hG.lt
    clear hG eO hOut hl
    go_enter Tryd.func10, Tryd.ntmps10
    go_wp2_with fail
    have hR0 := Rd.new w l
    have HG1 := Lib.hid (HG.out.after (below_one w (.cells #[.string (ba l)] 43)))
    have HB1 := Lib.hid (below_one w (.cells #[.string (ba l)] 43))
    have HR := Lib.hid hR0
    have hsz : (w.alloc (.cells #[.string (ba l)] 43)).heap.size = w.heap.size + 1 := by simp
    obtain ⟨W, hW⟩ : ∃ W, w.alloc (.cells #[.string (ba l)] 43) = W := ⟨_, rfl⟩
    rw [hW] at HG1 HB1 HR hsz ⊢
    clear hW hR0
    refine (run_c w.heap.size (w.heap.size + 1) 1 1 [1] l _ (HR.out.alloc _) rfl (by decide) (by have := run1_cells W 1 3; rw [hsz] at this; exact this) (by omega)).mono ?_
    rintro e w1 ⟨rfl, hw1⟩
    have hS1 : Stp W w1 w.heap.size (l.dropWhile blk) := by rw [hw1]; exact ((Stp.refl HR.out).alloc _).set _
    have hI : LI w w.heap.size l (.slice none 0 0) w1 (l.dropWhile blk) [] := {
      rd := hS1.rd
      hd := drop_head l
      own := OwnG.nil _ _ _
      lex := by rw [lex_drop]; cases lexL l <;> rfl
      gl := HG1.out.stp hS1 HR.out HGt.out
      blw := HB1.out.trans (hS1.below (Nat.le_refl _) (by omega))
      len := by have := drop_le blk l; simp; omega }
    have HI := Lib.hid hI
    clear hS1 hw1 hI HG1 HB1 HR hsz
    go_wp2_with fail
    go_loopw [4] (fun v wr => ∃ l' ts, Hid (LI w w.heap.size l v wr l' ts)) (fun _ wr => rdLen wr w.heap.size)
    case atStart => exact ⟨_, _, HI⟩
    case round =>
      clear HI
      obtain ⟨l', ts, hI⟩ := hrel
      have r0 := hI.out.rd.cell
      have hlt := hI.out.rd.lt
      have hlen := hI.out.rd.len
      cases l' with
      | nil =>
        go_wp2
        go_ret2
        refine ⟨_, _, rfl, ?_, hI.out.blw⟩
        rw [← HO.out, hI.out.lex, lex_nil]
        have hown := hI.out.own.mono (B' := w.heap.size) (by omega)
        have hl9 := hI.out.len
        rw [← List.append_nil ts] at hown hl9
        exact ⟨rfl, hown, by omega⟩
      | cons c r =>
        have hlenL := hI.out.len
        simp only [List.length_cons] at hlenL
        have hcls : cls c ≠ 1 := by
          rcases hI.out.hd with h | ⟨c', r', h, hc⟩
          · cases h
          · simp only [List.cons.injEq] at h
            rw [h.1]; exact hc
        have hcut := lex_tok (r := r) hcls
        have HCut := Lib.hid hcut
        clear hcls hcut
        go_wp2_with fail
        refine (token_c w.heap.size c r wr hI.out.rd (by omega) hI.out.gl HGt.out).mono ?_
        rintro e w2 ⟨tv, q, rfl, hO2, hS2⟩
        have HS2 := Lib.hid hS2
        have HG2 := Lib.hid (hI.out.gl.stp hS2 hI.out.rd HGt.out)
        have HB2 := Lib.hid (hI.out.blw.trans (hS2.below (Nat.le_refl _) hlt))
        have HO2 := Lib.hid (hI.out.own.stp hS2)
        clear hS2 r0
        cases hT : tokL (c :: r) with
        | none =>
          rw [hT] at hO2
          have hv : tv = .tuple #[tk0.val, .bool false] := hO2
          subst hv
          have HT := Lib.hid hT
          clear hO2 hT
          go_wp2
          go_ret2
          refine ⟨_, _, rfl, ?_, HB2.out.alloc HB2.out.size _⟩
          rw [← HO.out, hI.out.lex, HCut.out, HT.out]
          exact ⟨rfl, rfl⟩
        | some p =>
          obtain ⟨t, q'⟩ := p
          have hsz := tok_size hT
          simp only [List.length_cons] at hsz
          have h64 := tok_64 hT
          have hq := tok_lt hT
          simp only [List.length_cons] at hq
          rw [hT] at hO2
          obtain ⟨hv, rfl⟩ : tv = .tuple #[t.val, .bool true] ∧ q = q' := hO2
          subst hv
          have HT := Lib.hid hT
          clear hT
          go_wp2_with fail
          refine (tmay_c t _ (by unfold maxLen; omega) (by unfold maxLen; omega)).mono ?_
          rintro e w3 ⟨rfl, hb3⟩
          have HB3 := Lib.hid (below_via (below_one w2 t.obj) hb3)
          have HR3 := Lib.hid (HS2.out.rd.after HB3.out)
          have HG3 := Lib.hid (HG2.out.after HB3.out)
          have HO3 := Lib.hid (HO2.out.after HB3.out)
          have HBw := Lib.hid (HB2.out.trans (HB3.out.mono HB2.out.size))
          have hbw3 := HBw.out.size
          have HT3 := Lib.hid ((Bt.new w2 t).after hb3)
          obtain ⟨c0, c1, c2, c3, c4, f0, f1, f2, f3, f4, hlt3⟩ := HT3.out.all
          clear hb3 HB3 HO2 HG2 HB2 HS2 HT3
          cases hM : mayT t
          · have HM := Lib.hid hM
            clear hM
            go_wp2
            go_ret2
            refine ⟨_, _, rfl, ?_, HBw.out⟩
            rw [← HO.out, hI.out.lex, HCut.out, HT.out]
            simp only [HM.out]
            exact ⟨rfl, rfl⟩
          · have HM := Lib.hid hM
            clear hM
            go_wp2_with (at_builtin; go_must (
              refine wpList_appG tOk rfl (.tmp 31) (.tmp 33) rfl (w.heap.size + 1) _ ts [t] (some ⟨w3.heap.size, 0, none⟩) 1 1 rfl (HO3.out.alloc _) rfl rfl (SlG.new tOk.len [t] rfl) (by simp [maxLen]; omega) (by simp; omega) (by simp; omega) ?_
              intro v4 w4 hv4 hg4
              have HO4 := Lib.hid hv4
              have hR4 : Rd w4 w.heap.size q := (hg4.block w.heap.size (by simp; omega) (fun e => by have := (HO3.out.lt _ e.symm).1; omega)).trans (HR3.out.alloc _)
              have HR4 := Lib.hid hR4
              have HB4 := Lib.hid ((HBw.out.alloc HBw.out.size _).grown hg4 (by simp; omega) (fun k hk => by have := (HO3.out.lt k hk).1; omega))
              clear hv4 hg4 hR4))
            refine (run_c w.heap.size w4.heap.size 1 1 [1] q _ (HR4.out.alloc _) rfl (by decide) (run1_cells w4 1 3) (by omega)).mono ?_
            rintro e w5 ⟨rfl, hw5⟩
            have hS5 : Stp w4 w5 w.heap.size (q.dropWhile blk) := by rw [hw5]; exact ((Stp.refl HR4.out).alloc _).set _
            have hb5 := HB4.out.trans (hS5.below (Nat.le_refl _) HR4.out.lt)
            have hI5 : LI w w.heap.size l v4 w5 (q.dropWhile blk) (ts ++ [t]) := {
              rd := hS5.rd
              hd := drop_head q
              own := OwnG.stp HO4.out hS5
              lex := by
                rw [lex_drop, hI.out.lex, HCut.out, HT.out]
                simp only [HM.out, if_true]
                cases lexL q with
                | none => rfl
                | some a => simp
              gl := HG.out.below hb5 HGt.out
              blw := hb5
              len := by have := drop_le blk q; simp; omega }
            have HI5 := Lib.hid hI5
            have hm : rdLen w5 w.heap.size < rdLen wr w.heap.size := by
              rw [hS5.rd.len, hlen]
              have := drop_le blk q
              simp only [List.length_cons]; omega
            clear hw5 hS5 hb5 hI5
            go_wp2_with fail
            go_roundw
            case rel => exact ⟨_, _, HI5⟩
            case measure => exact hm
  · have eO : lexO l = none := by unfold lexO; rw [if_neg h2]
    rw [eO]
    have h3 : 20000 < l.length := by omega
    go_enter Tryd.func10, Tryd.ntmps10
    go_wp2
    go_ret2
    exact ⟨_, _, rfl, ⟨rfl, rfl⟩, Below.refl _ _⟩
end Go.Proofs.YtmgmdkagnhmihaaDoor
