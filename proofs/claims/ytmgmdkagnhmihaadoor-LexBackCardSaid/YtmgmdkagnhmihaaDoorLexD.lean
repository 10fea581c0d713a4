/-
  What a call that reads a text leaves as it was; a word; a text in quotes, as the program reads them: of texts of at most 100000 bytes.
-/
import Derived.Test.YtmgmdkagnhmihaaDoorLexC
import Derived.Test.YtmgmdkagnhmihaaDoorBuf
namespace Go.Proofs.YtmgmdkagnhmihaaDoor
open Go Go.RowKit
set_option maxRecDepth 100000

/-- From w to w' the reader in block b has come to r; all else that there was is as it was. -/
structure Stp (w w' : World) (b : Nat) (r : List UInt8) : Prop where
  os : w'.os = w.os
  tape : w'.tape = w.tape
  output : w'.output = w.output
  size : w.heap.size ≤ w'.heap.size
  rd : Rd w' b r
  block : ∀ k, k < w.heap.size → k ≠ b → w'.heap[k]? = w.heap[k]?
theorem Stp.refl {w : World} {b : Nat} {l : List UInt8} (h : Rd w b l) : Stp w w b l := ⟨rfl, rfl, rfl, Nat.le_refl _, h, fun _ _ _ => rfl⟩
theorem Stp.then {w w1 w2 : World} {b : Nat} {l : List UInt8} (h : Stp w w1 b l) (hb : Below w1.heap.size w1 w2) : Stp w w2 b l :=
  ⟨hb.os.trans h.os, hb.tape.trans h.tape, hb.output.trans h.output, Nat.le_trans h.size hb.size, h.rd.after hb, fun k hk hne => (hb.block k (Nat.lt_of_lt_of_le hk h.size)).trans (h.block k hk hne)⟩
theorem Stp.alloc {w w1 : World} {b : Nat} {l : List UInt8} (h : Stp w w1 b l) (o : Obj) : Stp w (w1.alloc o) b l := h.then (below_one w1 o)
theorem Stp.set {w w1 : World} {b : Nat} {l : List UInt8} (h : Stp w w1 b l) (r : List UInt8) : Stp w (w1.setCell ⟨b, 0, none⟩ (.string (ba r))) b r :=
  ⟨h.os, h.tape, h.output, by simpa [World.setCell] using h.size, h.rd.set r, fun k hk hne => (Below.heap_setCell _ _ _ _ hne).trans (h.block k hk hne)⟩
theorem Stp.trans {w w1 w2 : World} {b : Nat} {l r : List UInt8} (h : Stp w w1 b l) (k : Stp w1 w2 b r) : Stp w w2 b r :=
  ⟨k.os.trans h.os, k.tape.trans h.tape, k.output.trans h.output, Nat.le_trans h.size k.size, k.rd, fun i hi hne => (k.block i (Nat.lt_of_lt_of_le hi h.size) hne).trans (h.block i hi hne)⟩
theorem Stp.below {w w' : World} {b B : Nat} {r : List UInt8} (h : Stp w w' b r) (hB : B ≤ b) (hb : b < w.heap.size) : Below B w w' :=
  ⟨h.os, h.tape, h.output, h.size, fun k hk => h.block k (by omega) (by omega)⟩
theorem Stp.bt {w w' : World} {b c : Nat} {r : List UInt8} {a : Tk} (h : Stp w w' b r) (ht : Bt w c a) (hne : c ≠ b) : Bt w' c a := (h.block c ht.lt hne).trans ht
/-- A walk that began with a block of its own. -/
theorem Stp.of_alloc {w w' : World} {b : Nat} {r : List UInt8} {o : Obj} (h : Stp (w.alloc o) w' b r) : Stp w w' b r :=
  ⟨h.os, h.tape, h.output, by have := h.size; simp at this; omega, h.rd, fun k hk hne => (h.block k (by simp; omega) hne).trans (Below.heap_alloc w o k hk)⟩
theorem Stp.put {w w1 : World} {b c : Nat} {l : List UInt8} (h : Stp w w1 b l) (hc : w.heap.size ≤ c) (hne : c ≠ b) (a : Tk) : Stp w (put5 w1 c a) b l := by
  have hp := put5_below (Below.refl c w1) (Nat.le_refl c) a
  exact ⟨hp.os.trans h.os, hp.tape.trans h.tape, hp.output.trans h.output, Nat.le_trans h.size hp.size, (put5_heap a (fun e => hne e.symm)).trans h.rd, fun k hk hk2 => (put5_heap a (by omega)).trans (h.block k hk hk2)⟩
theorem cell_new (w : World) (cs : Array Value) (E : TypeId) (i : Nat) : (w.alloc (.cells cs E)).cell? ⟨w.heap.size, i, none⟩ = cs[i]? := by
  have e : (w.alloc (.cells cs E)).heap[w.heap.size]? = some (.cells cs E (0, 0)) := by
    show (w.heap.push _)[w.heap.size]? = _
    simp
  simp only [World.cell?, e, Option.isSome_none, Bool.false_eq_true, if_false]
theorem Stp.grown {w w1 w2 : World} {b : Nat} {l : List UInt8} {row : Option Nat} (h : Stp w w1 b l) (hg : w1.grownBy w2 row) (hrow : ∀ k, row = some k → w.heap.size ≤ k) (hb : b < w.heap.size) : Stp w w2 b l := by
  have hs := h.size
  have key : ∀ k, k < w.heap.size → w2.heap[k]? = w1.heap[k]? := fun k hk => hg.block k (by omega) (fun e => by have := hrow k e.symm; omega)
  exact ⟨hg.os.trans h.os, hg.tape.trans h.tape, hg.output.trans h.output, Nat.le_trans hs hg.size, (key b hb).trans h.rd, fun k hk hne => (key k hk).trans (h.block k hk hne)⟩

theorem GL.stp {w w' : World} {b : Nat} {l r : List UInt8} (h : GL w) (hs : Stp w w' b r) (hR : Rd w b l) (hb : GLt b) : GL w' := h.below (hs.below (Nat.le_refl _) hR.lt) hb

/-- What a reading tells. -/
def OutT (o : Option (Tk × List UInt8)) (v : Value) (r : List UInt8) : Prop := match o with
  | none => v = .tuple #[tk0.val, .bool false]
  | some p => v = .tuple #[p.1.val, .bool true] ∧ r = p.2

set_option maxHeartbeats 1000000 in
theorem word_c (b : Nat) (l : List UInt8) (w : World) (hR : Rd w b l) (hl : l.length ≤ 100000) :
    Calls Tryd.prog 32 #[.pointer (some ⟨b, 0, none⟩)] w fun e w' => e = .returned (.string (ba (l.takeWhile inn))) ∧ Stp w w' b (l.dropWhile inn) := by
  have HR := Lib.hid hR
  clear hR
  obtain ⟨T, hT⟩ : ∃ T, ba (l.takeWhile inn) = T := ⟨_, rfl⟩
  obtain ⟨D, hD⟩ : ∃ D, l.dropWhile inn = D := ⟨_, rfl⟩
  rw [hT, hD]
  have HT := Lib.hid hT
  have HD := Lib.hid hD
  clear hT hD
  go_enter Tryd.func32, Tryd.ntmps32
  go_wp2_with fail
  refine (run_c b _ _ _ [2, 3, 4] l _ (HR.out.alloc _) rfl (by decide) (fun j hj => ?_) (by omega)).mono ?_
  · rw [Nat.zero_add, cell_new]
    match j, hj with
    | 0, _ => rfl
    | 1, _ => rfl
    | 2, _ => rfl
    | j + 3, h => simp at h; omega
  rintro e w1 ⟨rfl, hw⟩
  have hs : Stp w w1 b D := by rw [hw, ← HD.out]; exact ((Stp.refl HR.out).alloc _).set _
  have Hs := Lib.hid hs
  clear hs hw
  have eT : ba (l.takeWhile (isIn [2, 3, 4])) = T := HT.out
  rw [eT]
  clear eT
  go_wp2
  go_ret
  exact ⟨rfl, Hs.out⟩

theorem quo_none : ∀ l : List UInt8, 39 ∉ l → quoF false l = none
  | [], _ => rfl
  | c :: l, h => by
    simp only [List.mem_cons, not_or] at h
    rw [quoF, if_neg (fun e => h.1 e.symm), quo_none l h.2]
    rfl
theorem quo_pre (post : List UInt8) : ∀ pre : List UInt8, 39 ∉ pre → quoF false (pre ++ 39 :: post) = (quoF true post).map fun p => (pre ++ p.1, p.2)
  | [], _ => by
    rw [List.nil_append, quoF, if_pos rfl]
    cases quoF true post <;> rfl
  | c :: l, h => by
    simp only [List.mem_cons, not_or] at h
    rw [List.cons_append, quoF, if_neg (fun e => h.1 e.symm), quo_pre post l h.2]
    cases quoF true post <;> rfl
theorem index_split : ∀ (l : List UInt8) (c : UInt8), (Lib.indexByte l c = -1 ∧ c ∉ l) ∨ ∃ pre post, l = pre ++ c :: post ∧ c ∉ pre ∧ Lib.indexByte l c = pre.length
  | [], c => .inl ⟨rfl, by simp⟩
  | b :: l, c => by
    rw [Lib.indexByte]
    by_cases h : b = c
    · subst h
      exact .inr ⟨[], l, rfl, by simp, by simp⟩
    · have hb : (b == c) = false := by simpa using h
      rw [hb]
      simp only [Bool.false_eq_true, if_false]
      rcases index_split l c with ⟨h1, h2⟩ | ⟨pre, post, h1, h2, h3⟩
      · refine .inl ⟨by rw [h1]; rfl, ?_⟩
        simp only [List.mem_cons, not_or]
        exact ⟨fun e => h e.symm, h2⟩
      · refine .inr ⟨b :: pre, post, by rw [h1]; rfl, ?_, ?_⟩
        · simp only [List.mem_cons, not_or]
          exact ⟨fun e => h e.symm, h2⟩
        · rw [h3]
          have : ((pre.length : Int) == -1) = false := by simp
          rw [this]
          simp
theorem Buf.same {w w' : World} {B : Nat} {v : Value} {bs : List UInt8} (h : Buf w B v bs) (hb : ∀ k, B ≤ k → w'.heap[k]? = w.heap[k]?) : Buf w' B v bs := by
  obtain ⟨h1, h2⟩ := h
  refine ⟨h1, ?_⟩
  rcases h2 with h2 | ⟨g', cap, cur, hv, hB, hh, h3⟩
  · exact .inl h2
  · exact .inr ⟨g', cap, cur, hv, hB, (hb g' hB).trans hh, h3⟩
def rdLen (w : World) (b : Nat) : Nat := match w.cell? ⟨b, 0, none⟩ with
  | some (.string s) => s.size
  | _ => 0
theorem Rd.len {w : World} {b : Nat} {l : List UInt8} (h : Rd w b l) : rdLen w b = l.length := by
  unfold rdLen
  rw [h.cell]
  show l.toArray.size = _
  simp
set_option maxHeartbeats 2000000 in
theorem quo_c (b : Nat) (l : List UInt8) (w : World) (hR : Rd w b (39 :: l)) (hl : l.length ≤ 100000) :
    Calls Tryd.prog 34 #[.pointer (some ⟨b, 0, none⟩)] w fun e w' => ∃ v r, e = .returned v ∧ OutT ((quoF false l).map fun p => (strT p.1, p.2)) v r ∧ Stp w w' b r := by
  obtain ⟨Out, hOut⟩ : ∃ Out : Value → List UInt8 → Prop, OutT ((quoF false l).map fun p => (strT p.1, p.2)) = Out := ⟨_, rfl⟩
  rw [hOut]
  have HO := Lib.hid hOut
  have hbw := hR.lt
  have HR := Lib.hid hR
  clear hR hOut
  go_enter Tryd.func34, Tryd.ntmps34
  go_wp2_with fail
  go_loopw [4] (fun i wr => ∃ acc rest : List UInt8, Hid (Stp w wr b (39 :: rest)) ∧ Hid (Bt wr w.heap.size tk0) ∧ Hid (Buf wr (w.heap.size + 1) i acc) ∧ Hid (quoF false l = (quoF false rest).map fun p => (acc ++ p.1, p.2)) ∧ Hid (acc.length + rest.length ≤ l.length)) (fun _ wr => rdLen wr b)
  case atStart =>
    refine ⟨[], l, (Stp.refl HR.out).alloc _, Bt.new w tk0, Buf.nil _ _, ?_, ?_⟩
    · show quoF false l = _
      cases quoF false l <;> rfl
    · show _ ≤ _
      simp
  case round =>
    obtain ⟨acc, rest, hS, hB, hU, hq, hn⟩ := hrel
    have hbs : b < wr.heap.size := hS.out.rd.lt
    go_wp2_with fail
    refine (take_c b 1 (39 :: rest) _ hS.out.rd (by simp) (by have := hn.out; simp; omega)).mono ?_
    rintro e w1 ⟨rfl, hw1⟩
    have hS1 : Stp w w1 b rest := by rw [hw1]; exact hS.out.set rest
    have hb1 : Below b wr w1 := by rw [hw1]; exact (Below.refl b wr).setCell (Nat.le_refl _) _
    have hk1 : ∀ k, k ≠ b → w1.heap[k]? = wr.heap[k]? := fun k hk => by rw [hw1]; exact Below.heap_setCell _ _ _ _ hk
    have hB1 : Bt w1 w.heap.size tk0 := (hk1 _ (by omega)).trans hB.out
    have hU1 : Buf w1 (w.heap.size + 1) u4 acc := hU.out.same fun k hk => hk1 k (by omega)
    have r0 := hS1.rd.cell
    have HS1 := Lib.hid hS1
    have HB1 := Lib.hid hB1
    have HU1 := Lib.hid hU1
    have hbs1 : b < w1.heap.size := hS1.rd.lt
    have Hm := Lib.hid hS.out.rd.len
    have eT : (39 :: rest).take 1 = [39] := rfl
    rw [eT]
    clear hw1 hS1 hb1 hk1 hB1 hU1 hS hB hU hbs eT
    go_wp2_with fail
    refine (Tryd.strings_IndexByte _ _ _).mono ?_
    rintro e w2 ⟨rfl, rfl⟩
    have e39 : Lib.indexByte (ba rest).data.toList (39 : Int).toNat.toUInt8 = Lib.indexByte rest 39 := rfl
    rw [e39]
    clear e39
    rcases index_split rest 39 with ⟨h1, h2⟩ | ⟨pre, post, h1, h2, h3⟩
    · rw [h1]
      have H2 := Lib.hid h2
      obtain ⟨c0, c1, c2, c3, c4, f0, f1, f2, f3, f4, hlt⟩ := HB1.out.all
      clear h1 h2
      go_wp2
      refine ret_tok (a := tk0) Tryd.results34 rfl rfl (HB1.out.put tk0) rfl ⟨_, rest, rfl, ?_, HS1.out.put (Nat.le_refl _) (by omega) tk0⟩
      rw [← HO.out, hq.out, quo_none rest H2.out]
      rfl
    · rw [h3]
      have H1 := Lib.hid h1
      have H2 := Lib.hid h2
      have hlen : pre.length + post.length + 1 = rest.length := by rw [h1]; simp; omega
      clear h1 h2 h3
      go_wp2_with fail
      refine (take_c b pre.length rest _ HS1.out.rd (by omega) (by have := hn.out; omega)).mono ?_
      rintro e w3 ⟨rfl, hw3⟩
      have hS3 : Stp w w3 b (39 :: post) := by
        rw [hw3]
        have := HS1.out.set (rest.drop pre.length)
        rwa [show rest.drop pre.length = 39 :: post by rw [H1.out]; simp] at this ⊢
      have hk3 : ∀ k, k ≠ b → w3.heap[k]? = w2.heap[k]? := fun k hk => by rw [hw3]; exact Below.heap_setCell _ _ _ _ hk
      have hz3 : w3.heap.size = w2.heap.size := by rw [hw3]; simp [World.setCell]
      have HB3 : Hid (Bt w3 w.heap.size tk0) := (hk3 _ (by omega)).trans HB1.out
      have HU3 : Hid (Buf w3 (w.heap.size + 1) u4 acc) := HU1.out.same fun k hk => hk3 k (by omega)
      have HS3 := Lib.hid hS3
      have hbs3 : w.heap.size < w3.heap.size := by have := HB1.out.lt; omega
      have eT : rest.take pre.length = pre := by rw [H1.out]; simp
      rw [eT]
      clear hw3 hS3 hk3 hz3 eT HS1 HB1 HU1 r0 hbs1
      go_wp2_with (at_builtin; go_must (refine wpList_appS rfl (.tmp 16) (.tmp 19) rfl (w.heap.size + 1) _ acc (ba pre) rfl HU3.out rfl (by have := hn.out; show _ + pre.toArray.size ≤ _; simp; omega) (by omega) ?_; intro v4 w4 hU4 hg4))
      have hg4 : w3.grownBy w4 u4.ownBlock := hg4
      have hrow : ∀ k, u4.ownBlock = some k → w.heap.size + 1 ≤ k := fun k hk => (HU3.out.lt k hk).1
      have hS4 : Stp w w4 b (39 :: post) := HS3.out.grown hg4 (fun k hk => by have := hrow k hk; omega) hbw
      have hB4 : Bt w4 w.heap.size tk0 := (hg4.block _ hbs3 (fun e => by have := hrow _ e.symm; omega)).trans HB3.out
      clear HB3 HU3 HS3
      refine (take_c b 1 (39 :: post) _ hS4.rd (by simp) (by have := hn.out; simp; omega)).mono ?_
      rintro e w5 ⟨rfl, hw5⟩
      have hS5 : Stp w w5 b post := by rw [hw5]; exact hS4.set post
      have hk5 : ∀ k, k ≠ b → w5.heap[k]? = w4.heap[k]? := fun k hk => by rw [hw5]; exact Below.heap_setCell _ _ _ _ hk
      have hB5 : Bt w5 w.heap.size tk0 := (hk5 _ (by omega)).trans hB4
      have hU5 : Buf w5 (w.heap.size + 1) v4 (acc ++ pre) := hU4.same fun k hk => hk5 k (by omega)
      have r0 := hS5.rd.cell
      have HS5 := Lib.hid hS5
      have HB5 := Lib.hid hB5
      have HU5 := Lib.hid hU5
      have hbs5 : w.heap.size < w5.heap.size := hB5.lt
      have hbl5 : b < w5.heap.size := hS5.rd.lt
      have hconv := hU5.conv
      have eT : (39 :: post).take 1 = [39] := rfl
      rw [eT]
      clear hw5 hS5 hk5 hB5 hU5 hS4 hB4 hU4 hg4 hrow hbs3 eT
      have hq2 : quoF false l = (quoF true post).map fun p => ((acc ++ pre) ++ p.1, p.2) := by
        rw [hq.out, H1.out, quo_pre post pre H2.out]
        cases quoF true post <;> simp
      have Hq2 := Lib.hid hq2
      clear hq2
      have hbuf : (⟨(acc ++ pre).toArray⟩ : ByteArray) = ba (acc ++ pre) := rfl
      rw [hbuf] at hconv
      clear hbuf
      have hlen2 : Hid ((acc ++ pre).length + 1 + post.length ≤ l.length) := by
        have := hn.out
        show _ ≤ _
        rw [List.length_append]
        omega
      have hm2 : Hid (post.length < rdLen wr b) := by
        have := Hm.out
        show _ < _
        rw [this, List.length_cons]
        omega
      clear hlen hn Hm H1 H2 hq
      generalize (acc ++ pre) = A at HU5 hconv Hq2 hlen2
      obtain ⟨c0, c1, c2, c3, c4, f0, f1, f2, f3, f4, hlt⟩ := HB5.out.all
      cases post with
      | nil =>
        go_wp2
        refine ret_tok (a := strT A) (z := .bool true) Tryd.results34 rfl rfl (HB5.out.put (strT A)) rfl ⟨_, [], rfl, ?_, HS5.out.put (Nat.le_refl _) (by omega) (strT A)⟩
        rw [← HO.out, Hq2.out]
        refine ⟨?_, rfl⟩
        simp
      | cons c post =>
        have Hg : Hid ((ba (c :: post))[0]'(by show 0 < (c :: post).toArray.size; simp) = c) := rfl
        go_wp2_with fail
        refine (cls_c _ _).mono ?_
        rintro e w6 ⟨rfl, rfl⟩
        rw [Hg.out]
        clear Hg
        by_cases hc : cls c = 5
        · have hc39 : c = 39 := by have := byte_of (cls_5.1 hc); simpa using this
          rw [hc]
          have Hc := Lib.hid hc39
          clear hc hc39
          go_wp2_with (at_builtin; go_must (refine wpList_appB rfl (.tmp 41) (.tmp 42) rfl (w.heap.size + 1) _ A 39 rfl HU5.out rfl _ rfl rfl (by have := hlen2.out; omega) (by omega) ?_; intro v7 w7 hU7 hg7))
          have hg7 : w6.grownBy w7 v4.ownBlock := hg7
          have hrow : ∀ k, v4.ownBlock = some k → w.heap.size + 1 ≤ k := fun k hk => (HU5.out.lt k hk).1
          have hS7 : Stp w w7 b (c :: post) := HS5.out.grown hg7 (fun k hk => by have := hrow k hk; omega) hbw
          have hB7 : Bt w7 w.heap.size tk0 := (hg7.block _ hbs5 (fun e => by have := hrow _ e.symm; omega)).trans HB5.out
          rw [Hc.out] at hS7
          go_roundw
          case rel =>
            refine ⟨A ++ [39], post, hS7, hB7, hU7, ?_, ?_⟩
            · show quoF false l = _
              rw [Hq2.out, Hc.out, quoF, if_pos rfl]
              cases quoF false post <;> simp
            · have := hlen2.out
              show _ ≤ _
              simp only [List.length_append, List.length_cons, List.length_nil] at this ⊢
              omega
          case measure =>
            have := hm2.out
            rw [hS7.rd.len]
            exact this
        · have hne : (cls c == 5) = false := by simpa using hc
          have hc39 : c ≠ 39 := by rintro rfl; exact hc (by decide)
          have Hc := Lib.hid hc39
          generalize cls c = cx at hne ⊢
          clear hc hc39
          go_wp2
          refine ret_tok (a := strT A) (z := .bool true) Tryd.results34 rfl rfl (HB5.out.put (strT A)) rfl ⟨_, c :: post, rfl, ?_, HS5.out.put (Nat.le_refl _) (by omega) (strT A)⟩
          rw [← HO.out, Hq2.out, quoF, if_neg Hc.out]
          refine ⟨?_, rfl⟩
          simp
end Go.Proofs.YtmgmdkagnhmihaaDoor
