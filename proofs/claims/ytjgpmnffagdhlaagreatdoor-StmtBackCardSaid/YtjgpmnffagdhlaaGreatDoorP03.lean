/-
  Part 3 of 7 of what the proof leans on: each part below says what it proves, and of what; no condition besides.
-/
import Derived.Test.YtjgpmnffagdhlaaGreatDoorP02
import Derived.WideMake
import Derived.Laws.OwnMore
import Derived.Deep.RegionLaw
set_option linter.unusedVariables false
set_option linter.unusedSimpArgs false
namespace Go.Proofs.YtjgpmnffagdhlaaGreatDoor
open Go Go.RowKit
set_option maxRecDepth 100000
/-- The words of steps, as they are kept: what the program's map holds. -/
def stW : List (List UInt8 × Nd) := [(w_true, ⟨1, 0, tt⟩), (w_false, ⟨1, 0, ff⟩), (w_null, ⟨1, 0, nl⟩), (s_pl, ⟨2, 0, nl⟩), (s_mi, ⟨3, 0, nl⟩), (s_st, ⟨4, 0, nl⟩), (s_eq, ⟨5, 0, nl⟩), (s_lt, ⟨6, 0, nl⟩), (w_and, ⟨7, 0, nl⟩), (w_or, ⟨8, 0, nl⟩), (w_not, ⟨9, 0, nl⟩)]
def entsF : Nat → List (List UInt8 × Nd) → List MapEntry
  | _, [] => []
  | i, p :: r => ⟨.string (ba p.1), p.2.w, i⟩ :: entsF (i + 1) r
def stO (k : Nat) : Obj := .map (entsF 0 (stW.take k)).toArray k
/-- Tokens that lie below B. -/
def Tks (w : World) (B : Nat) (A : Option Addr) (l : List Tk) : Prop := l = [] ∨ ∃ c off, A = some ⟨c, off, none⟩ ∧ c < B ∧ ∀ i x, l[i]? = some x → ∀ j u, (rdT x)[j]? = some u → w.cell? ⟨c, off + i * 5 + j, none⟩ = some u
/-- Tokens that may be, and are not too many. -/
def Lm (l : List Tk) : Prop := l.length ≤ 20000 ∧ ∀ t ∈ l, mayT t = true
/-- Block b holds the program's reader: l is still to be read. -/
def Rq (w : World) (b : Nat) (l : List Tk) : Prop := ∃ A n c m, Bk w b #[.slice A n c, .map (some m)] 112 ∧ l.length = n ∧ n ≤ c ∧ c ≤ maxLen ∧ Tks w b A l ∧ m < b ∧ w.heap[m]? = some (stO 11) ∧ Lm l
theorem Tks.same {w w' : World} {B : Nat} {A : Option Addr} {l : List Tk} (h : Tks w B A l) (hs : ∀ k, k < B → w'.heap[k]? = w.heap[k]?) : Tks w' B A l := by
  rcases h with h | ⟨c, off, hA, hc, h⟩
  · exact .inl h
  · exact .inr ⟨c, off, hA, hc, fun i x hx j u hu => by rw [← h i x hx j u hu]; simp only [World.cell?, hs c hc]⟩
theorem Tks.drop {w : World} {b off n B : Nat} {l : List Tk} (h : Tks w B (some ⟨b, off, none⟩) l) (k : Nat) : Tks w B (some ⟨b, off + k * 5, none⟩) (l.drop k) := by
  rcases h with h | ⟨c, o, hA, hc, h⟩
  · subst h; exact .inl (by simp)
  · simp only [Option.some.injEq, Addr.mk.injEq, and_true] at hA
    obtain ⟨rfl, rfl⟩ := hA
    refine .inr ⟨b, off + k * 5, rfl, hc, fun i x hx j u hu => ?_⟩
    rw [List.getElem?_drop] at hx
    have := h _ x hx j u hu
    rw [← this]
    congr 2
    rw [Nat.add_mul]
    omega
theorem Rq.lt {w : World} {b : Nat} {l : List Tk} (h : Rq w b l) : b < w.heap.size := by obtain ⟨A, n, c, m, hb, _⟩ := h; exact hb.lt
theorem Rq.same {w w' : World} {b : Nat} {l : List Tk} (h : Rq w b l) (hs : ∀ k, k ≤ b → w'.heap[k]? = w.heap[k]?) : Rq w' b l := by
  obtain ⟨A, n, c, m, h1, h2, h3, h4, h5, h6, h7, h8⟩ := h
  exact ⟨A, n, c, m, (hs b (Nat.le_refl _)).trans h1, h2, h3, h4, h5.same fun k hk => hs k (by omega), h6, (hs m (by omega)).trans h7, h8⟩
theorem Rq.after {w w' : World} {b B : Nat} {l : List Tk} (h : Rq w b l) (hb : Below B w w') (hB : b < B) : Rq w' b l := h.same fun k hk => hb.block k (by omega)
theorem Rq.alloc {w : World} {b : Nat} {l : List Tk} (h : Rq w b l) (o : Obj) : Rq (w.alloc o) b l := h.after (below_one w o) h.lt
theorem Rq.own {w : World} {b c : Nat} {l : List Tk} (h : Rq w b l) (hc : b < c) (j : Nat) (u : Value) : Rq (w.setCell ⟨c, j, none⟩ u) b l := h.same fun k hk => Below.heap_setCell _ _ _ _ (show k ≠ c by omega)
theorem Rq.put {w : World} {b c : Nat} {l : List Tk} (h : Rq w b l) (hc : b < c) (j : Nat) (vs : List Value) : Rq (putL w c j vs) b l := h.same fun k hk => putL_heap vs w c j k (by omega)
theorem Rq.may {w : World} {b : Nat} {l : List Tk} (h : Rq w b l) : ∀ t ∈ l, mayT t = true := by obtain ⟨A, n, c, m, _, _, _, _, _, _, _, h8⟩ := h; exact h8.2
theorem Rq.len {w : World} {b : Nat} {l : List Tk} (h : Rq w b l) : l.length ≤ 20000 := by obtain ⟨A, n, c, m, _, _, _, _, _, _, _, h8⟩ := h; exact h8.1
/-- How much is left, as memory tells. -/
def rqLen (w : World) (b : Nat) : Nat := match w.cell? ⟨b, 0, none⟩ with
  | some (.slice _ n _) => n
  | _ => 0
theorem Rq.left {w : World} {b : Nat} {l : List Tk} (h : Rq w b l) : rqLen w b = l.length := by
  obtain ⟨A, n, c, m, hb, hn, _⟩ := h
  unfold rqLen
  rw [hb.cell 0, hn]
  rfl
theorem Rq.drew {w : World} {b : Nat} {l : List Tk} (h : Rq w b l) : Rq w.drew b l := h
/-- Do these words and signs come next? -/
def seesB : List (List UInt8) → List Tk → Bool
  | [], _ => true
  | _ :: _, [] => false
  | s :: ws, t :: r => (t.t.data.toList == s) && seesB ws r
theorem seesB_len : ∀ (ws : List (List UInt8)) (l : List Tk), seesB ws l = true → ws.length ≤ l.length
  | [], _, _ => Nat.zero_le _
  | _ :: _, [], h => by cases h
  | s :: ws, t :: r, h => by
    rw [seesB, Bool.and_eq_true] at h
    have := seesB_len ws r h.2
    simp; omega
theorem seesB_at : ∀ (ws : List (List UInt8)) (l : List Tk) (k : Nat) (s : List UInt8) (t : Tk), ws[k]? = some s → l[k]? = some t → (t.t.data.toList == s) = false → seesB ws l = false
  | [], _, _, _, _, h, _, _ => by simp at h
  | _ :: _, [], _, _, _, _, h, _ => by simp at h
  | s :: ws, t :: r, 0, s', t', h, h', e => by
    simp at h h'; subst h h'
    rw [seesB, e]; rfl
  | s :: ws, t :: r, k + 1, s', t', h, h', e => by
    rw [seesB, seesB_at ws r k s' t' (by simpa using h) (by simpa using h') e, Bool.and_false]
theorem seesB_all : ∀ (ws : List (List UInt8)) (l : List Tk), ws.length ≤ l.length → (∀ (k : Nat) (s : List UInt8) (t : Tk), ws[k]? = some s → l[k]? = some t → (t.t.data.toList == s) = true) → seesB ws l = true
  | [], _, _, _ => rfl
  | _ :: _, [], h, _ => by simp at h
  | s :: ws, t :: r, h, ha => by
    rw [seesB, ha 0 s t rfl rfl, seesB_all ws r (by simpa using h) (fun k s' t' h1 h2 => ha (k + 1) s' t' (by simpa using h1) (by simpa using h2))]
    rfl
set_option maxHeartbeats 1000000 in
theorem done_c (b : Nat) (l : List Tk) (w : World) (hR : Rq w b l) : Calls Tryz.prog 103 #[.pointer (some ⟨b, 0, none⟩)] w fun e w' => e = .returned (.bool l.isEmpty) ∧ w' = w := by
  obtain ⟨A, n, c, m, hb, hn, hc, hm, _, _, _, _⟩ := hR
  have c0 := hb.cell 0
  simp only [List.getElem?_toArray, List.getElem?_cons_zero] at c0
  have hE : l.isEmpty = decide ((n : Int) = 0) := by
    rw [← hn]
    cases l with
    | nil => rfl
    | cons t r =>
      have : ¬ (((t :: r).length : Int) = 0) := by simp; omega
      rw [decide_eq_false this]; rfl
  rw [hE]
  clear hn hE hb
  go_enter Tryz.func103, Tryz.ntmps103
  go_wp2
  go_ret
  exact ⟨by first | rfl | simp, rfl⟩
set_option maxHeartbeats 2000000 in
theorem sees_c (b : Nat) (l : List Tk) (ws : List (List UInt8)) (Aw : Option Addr) (nw cw : Nat) (w : World) (hR : Rq w b l) (hW : SlG w Aw 1 rdS ws) (hnw : ws.length = nw) (hmw : nw ≤ maxLen) :
    Calls Tryz.prog 149 #[.pointer (some ⟨b, 0, none⟩), .slice Aw nw cw] w fun e w' => e = .returned (.bool (seesB ws l)) ∧ w' = w := by
  unfold maxLen at hmw
  obtain ⟨A, n, c, m, hb, hn, hc, hm, hT, _, _, _⟩ := hR
  unfold maxLen at hm
  have c0 := hb.cell 0
  simp only [List.getElem?_toArray, List.getElem?_cons_zero] at c0
  obtain ⟨R, hRe⟩ : ∃ R, seesB ws l = R := ⟨_, rfl⟩
  rw [hRe]
  have HR := Lib.hid hRe
  have HT := Lib.hid hT
  have HW := Lib.hid hW
  have Hn := Lib.hid hn
  have Hw := Lib.hid hnw
  clear hb hRe hT hW hn hnw
  by_cases hlt : n < nw
  · have hRf : R = false := by
      rw [← HR.out, ← Bool.not_eq_true]
      intro h
      have := seesB_len ws l h
      have h1 := Hn.out
      have h2 := Hw.out
      omega
    subst hRf
    clear HR HT HW Hn Hw
    go_enter Tryz.func149, Tryz.ntmps149
    go_wp2
    go_ret
    exact ⟨rfl, rfl⟩
  · go_enter Tryz.func149, Tryz.ntmps149
    go_wp2_with fail
    go_loopw [17] (fun i wr => ∃ k : Nat, k ≤ nw ∧ i = .int .i64 k ∧ w = wr ∧ Hid (∀ (j : Nat) (s : List UInt8) (t : Tk), j < k → ws[j]? = some s → l[j]? = some t → (t.t.data.toList == s) = true)) (fun i _ => nw - (intOf i).toNat)
    case atStart => exact ⟨0, Nat.zero_le _, rfl, rfl, Lib.hid (fun j s t h => absurd h (Nat.not_lt_zero _))⟩
    case round =>
      obtain ⟨k, hk, rfl, rfl, hA⟩ := hrel
      by_cases hlt2 : k < nw
      · obtain ⟨b1, o1, s, hA1, hb1, hs, d1⟩ := HW.out.at1 (by rw [Hw.out]; exact hlt2)
        have d1 := d1 _ rfl
        have hl : k < l.length := by rw [Hn.out]; omega
        obtain ⟨t, ht⟩ : ∃ t, l[k]? = some t := ⟨_, List.getElem?_eq_getElem hl⟩
        obtain ⟨b2, o2, hA2, hb2, h2⟩ : ∃ b2 o2, A = some ⟨b2, o2, none⟩ ∧ b2 < b ∧ ∀ i x, l[i]? = some x → ∀ j u, (rdT x)[j]? = some u → w.cell? ⟨b2, o2 + i * 5 + j, none⟩ = some u := by
          rcases HT.out with h | h
          · rw [h] at hl; simp at hl
          · exact h
        have d2 := h2 k t ht 1 _ rfl
        have Hs := Lib.hid hs
        have Ht := Lib.hid ht
        subst hA1 hA2
        clear hs ht h2 HW HT hl
        obtain ⟨u, hu⟩ : ∃ u : ByteArray, (⟨s.toArray⟩ : ByteArray) = u := ⟨_, rfl⟩
        rw [hu] at d1
        have hus : u.data.toList = s := by rw [← hu]
        have Hus := Lib.hid hus
        clear hu hus
        have he : (t.t.toList == u.toList) = (t.t.data.toList == s) := by rw [ByteArray.toList_eq, ByteArray.toList_eq, Hus.out]
        cases hq : (t.t.data.toList == s)
        · have hRf : R = false := by rw [← HR.out]; exact seesB_at ws l k s t Hs.out Ht.out hq
          subst hRf
          rw [hq] at he
          have hne : (t.t.toList != u.toList) = true := by rw [bne, he]; rfl
          clear HR hq hA Hs Ht Hus
          go_wp2
          go_ret
          exact ⟨rfl, rfl⟩
        · rw [hq] at he
          have hne : (t.t.toList != u.toList) = false := by rw [bne, he]; rfl
          have hA2 : ∀ (j : Nat) (s : List UInt8) (t : Tk), j < k + 1 → ws[j]? = some s → l[j]? = some t → (t.t.data.toList == s) = true := by
            intro j s' t' hj h1 h2
            by_cases hjk : j = k
            · subst hjk
              rw [Hs.out] at h1; rw [Ht.out] at h2
              simp at h1 h2; subst h1 h2
              exact hq
            · exact hA.out j s' t' (by omega) h1 h2
          have HA2 := Lib.hid hA2
          clear HR hq hA Hs Ht Hus hA2
          go_wp2
          go_roundw
          case rel => exact ⟨k + 1, by omega, by go_num, trivial, HA2⟩
          case measure => simp [intOf]; omega
      · have hke : k = nw := by omega
        have hRt : R = true := by
          rw [← HR.out]
          refine seesB_all ws l (by rw [Hn.out, Hw.out]; omega) fun j s t h1 h2 => hA.out j s t ?_ h1 h2
          have := (List.getElem?_eq_some_iff.1 h1).1
          rw [Hw.out] at this; omega
        subst hRt hke
        clear HR hA HT HW Hn Hw hk hlt2
        go_wp2
        go_ret
        exact ⟨rfl, rfl⟩
end Go.Proofs.YtjgpmnffagdhlaaGreatDoor
namespace Go.Proofs.YtjgpmnffagdhlaaGreatDoor
open Go Go.RowKit
set_option maxRecDepth 100000
set_option maxHeartbeats 2000000 in
theorem has_c (b : Nat) (l : List Tk) (ws : List (List UInt8)) (Aw : Option Addr) (nw cw : Nat) (w : World) (hR : Rq w b l) (hW : SlG w Aw 1 rdS ws) (hnw : ws.length = nw) (hmw : nw ≤ maxLen) (h0 : 0 < nw) :
    Calls Tryz.prog 146 #[.pointer (some ⟨b, 0, none⟩), .slice Aw nw cw] w fun e w' => e = .returned (.bool (seesB ws l)) ∧ Rq w' b (if seesB ws l then l.drop nw else l) ∧ Apb b w w' := by
  have HS := Lib.hid (sees_c b l ws Aw nw cw w hR hW hnw hmw)
  have hle : seesB ws l = true → nw ≤ l.length := fun h => by have := seesB_len ws l h; omega
  have Hle := Lib.hid hle
  obtain ⟨R, hRe⟩ : ∃ R, seesB ws l = R := ⟨_, rfl⟩
  rw [hRe] at HS Hle ⊢
  have HR := Lib.hid hR
  clear hW hnw hRe hR hle
  unfold maxLen at hmw
  cases R
  · clear Hle
    go_enter Tryz.func146, Tryz.ntmps146
    go_wp2_with fail
    refine HS.out.mono ?_
    rintro e w1 ⟨rfl, rfl⟩
    clear HS
    go_wp2
    go_ret
    exact ⟨rfl, HR.out, Apb.refl b w1⟩
  · have hl := Hle.out rfl
    obtain ⟨A, n, c, m, hb, hn, hc, hm, hT, hmb, hmo, hmay⟩ := HR.out
    unfold maxLen at hm
    obtain ⟨c2, off, hA, hcb, hT2⟩ : ∃ c2 off, A = some ⟨c2, off, none⟩ ∧ c2 < b ∧ Tks w b (some ⟨c2, off, none⟩) l := by
      rcases hT with h | ⟨c2, off, hA, hcb, h⟩
      · subst h; simp at hl; omega
      · exact ⟨c2, off, hA, hcb, .inr ⟨c2, off, rfl, hcb, h⟩⟩
    subst hA
    have hln : nw ≤ n := by omega
    have c0 := hb.cell 0
    simp only [List.getElem?_toArray, List.getElem?_cons_zero] at c0
    have f0 := hb.thaw 0
    have HT2 := Lib.hid hT2
    have Hb := Lib.hid hb
    have Hmo := Lib.hid hmo
    have Hn := Lib.hid hn
    have Hmay := Lib.hid hmay
    clear hT hT2 hb hmo hmay hn hl Hle HR
    have key : ∀ A', Tks w b A' (l.drop nw) → Rq (w.setCell ⟨b, 0, none⟩ (.slice A' (n - nw) (c - nw))) b (l.drop nw) := fun A' hA' => by
      refine ⟨A', n - nw, c - nw, m, Hb.out.set 0 _, by rw [List.length_drop, Hn.out], by omega, by unfold maxLen; omega, hA'.same fun k hk => Below.heap_setCell _ _ _ _ (show k ≠ b by omega), hmb, ?_, by rw [List.length_drop]; have := Hmay.out.1; omega, fun t ht => Hmay.out.2 t (List.mem_of_mem_drop ht)⟩
      exact (Below.heap_setCell _ _ _ _ (show m ≠ b by omega)).trans Hmo.out
    have Key := Lib.hid key
    clear key
    by_cases hcn : c = nw
    · obtain rfl : c = n := by omega
      subst hcn
      have hd : l.drop c = [] := by rw [List.drop_eq_nil_iff, Hn.out]; exact Nat.le_refl _
      have hk0 := Key.out (some ⟨c2, off, none⟩) (.inl hd)
      rw [Nat.sub_self] at hk0
      have Hk := Lib.hid hk0
      clear hk0
      clear Key hd HT2
      go_enter Tryz.func146, Tryz.ntmps146
      go_wp2_with fail
      refine HS.out.mono ?_
      rintro e w1 ⟨rfl, rfl⟩
      clear HS
      go_wp2
      go_ret
      exact ⟨rfl, Hk.out, (Apb.refl b _).set 0 _⟩
    · have hlt : nw < c := by omega
      have Hk := Lib.hid (Key.out _ (HT2.out.drop (n := n) nw))
      clear Key HT2
      go_enter Tryz.func146, Tryz.ntmps146
      go_wp2_with fail
      refine HS.out.mono ?_
      rintro e w1 ⟨rfl, rfl⟩
      clear HS
      go_wp2
      go_ret
      exact ⟨rfl, Hk.out, (Apb.refl b _).set 0 _⟩
end Go.Proofs.YtjgpmnffagdhlaaGreatDoor
namespace Go.Proofs.YtjgpmnffagdhlaaGreatDoor
open Go Go.RowKit
set_option maxRecDepth 100000
/-- The text with a blank behind it, if there is any. -/
def blankW (l : List UInt8) : List UInt8 := if l = [] then [] else l ++ [32]
/-- Words written behind a text; nothing, if it gets too long. -/
def addW : List UInt8 → List (List UInt8) → Option (List UInt8)
  | l, [] => some l
  | l, s :: ss => if (blankW l).length + s.length ≤ 20000 then addW (blankW l ++ s) ss else none
/-- What a writer's method answers. -/
def WS (B b : Nat) (w : World) (o : Option (List UInt8)) (e : Ending) (w' : World) : Prop :=
  match o with
  | none => e = .panicked (boom 70) ∧ Wk B b w w'
  | some l => e = .returned (.tuple #[]) ∧ Wr w' B b l ∧ l.length ≤ 20000 ∧ Wk B b w w'
/-- Words in a block of their own. -/
def Ws (w : World) (k b : Nat) (ws : List (List UInt8)) : Prop := Bk w k (ws.map fun s => Value.string (ba s)).toArray 9 ∧ k ≠ b
theorem Ws.cell {w : World} {k b : Nat} {ws : List (List UInt8)} (h : Ws w k b ws) {j : Nat} {s : List UInt8} (hs : ws[j]? = some s) : w.cell? ⟨k, j, none⟩ = some (.string (ba s)) := by
  rw [h.1.cell j]; simp [hs]
theorem Ws.keep {w w' : World} {B k b : Nat} {ws : List (List UInt8)} (h : Ws w k b ws) (hk : Wk B b w w') : Ws w' k b ws := ⟨hk.bk h.1 h.2 (by decide), h.2⟩
theorem req_c (D : Bool) (w : World) : Calls Tryz.prog 56 #[.bool D] w fun e w' => e = (if D then .returned (.tuple #[]) else .panicked (boom 70)) ∧ w' = w := by
  cases D
  · exact req_no w
  · exact req_yes w
theorem wblank_c (B b : Nat) (l : List UInt8) (w : World) (h : Wr w B b l) (hl : l.length ≤ 20000) :
    Calls Tryz.prog 164 #[.pointer (some ⟨b, 0, none⟩), .int .u8 32] w fun e w' => e = .returned .nilIface ∧ Wr w' B b (l ++ [32]) ∧ Wk B b w w' := wbyte_c B b l 32 w h (by omega)
set_option maxHeartbeats 4000000 in
theorem add_c (B b k0 : Nat) (l : List UInt8) (ws : List (List UInt8)) (nw : Nat) (w : World) (h : Wr w B b l) (hl : l.length ≤ 20000) (hW : Ws w k0 b ws) (hnw : ws.length = nw) (hmw : nw ≤ 1000) (hsm : ∀ s ∈ ws, s.length ≤ 4611686018427387904) :
    Calls Tryz.prog 118 #[.pointer (some ⟨b, 0, none⟩), .slice (some ⟨k0, 0, none⟩) nw nw] w (WS B b w (addW l ws)) := by
  obtain ⟨S, hS⟩ : ∃ S, WS B b w (addW l ws) = S := ⟨_, rfl⟩
  rw [hS]
  have HS := Lib.hid hS
  have Hw := Lib.hid h
  have HW := Lib.hid hW
  have Hl := Lib.hid hnw
  have Hsm := Lib.hid hsm
  have Hll := Lib.hid hl
  clear hS h hW hnw hsm hl
  go_enter Tryz.func118, Tryz.ntmps118
  go_wp2_with fail
  go_loopw [8] (fun i wr => ∃ (k : Nat) (lc : List UInt8), k ≤ nw ∧ i = .int .i64 k ∧ Hid (Wr wr B b lc) ∧ Hid (Wk B b w wr) ∧ Hid (addW l ws = addW lc (ws.drop k)) ∧ Hid (lc.length ≤ 20000)) (fun i _ => nw - (intOf i).toNat)
  case atStart => exact ⟨0, l, Nat.zero_le _, rfl, Hw, Lib.hid (Wk.refl B b _), Lib.hid rfl, Hll⟩
  case round =>
    obtain ⟨k, lc, hk, rfl, hwr, hwk, Hj, hlc⟩ := hrel
    by_cases hlt : k < nw
    · obtain ⟨s, hs⟩ : ∃ s, ws[k]? = some s := ⟨_, List.getElem?_eq_getElem (by rw [Hl.out]; exact hlt)⟩
      have hss : s.length ≤ 4611686018427387904 := Hsm.out s (List.mem_of_getElem? hs)
      have d1 := (HW.out.keep hwk.out).cell hs
      obtain ⟨u, hu⟩ : ∃ u : ByteArray, ba s = u := ⟨_, rfl⟩
      have hus : u.size = s.length := by rw [← hu]; rfl
      rw [hu] at d1
      have Hbu := Lib.hid hu
      have Hs := Lib.hid hs
      have hlc2 := hlc.out
      clear hu hs
      by_cases hnil : lc = []
      · subst hnil
        obtain ⟨m1, hm1⟩ : ∃ m1 : List UInt8, m1 = [] := ⟨_, rfl⟩
        have HM1 : Hid (Wr wr B b m1) := by rw [hm1]; exact hwr
        have hm1l : m1.length ≤ 20001 := by rw [hm1]; simp
        have Em1 := Lib.hid hm1
        clear hm1
        go_wp2_with fail
        refine (wlen_c B b [] wr hwr.out).mono ?_
        rintro e w2 ⟨rfl, hw9⟩
        obtain rfl := hw9.symm
        go_wp2_with fail
        refine (wlen_c B b m1 wr HM1.out).mono ?_
        rintro e w5 ⟨rfl, hw9⟩
        obtain rfl := hw9.symm
        go_wp2_with fail
        refine (req_c _ _).mono ?_
        rintro e w6 ⟨rfl, hw9⟩
        obtain rfl := hw9.symm
        by_cases hfit : m1.length + s.length ≤ 20000
        · have hd : decide ((m1.length : Int) + (s.length : Int) ≤ 20000) = true := by rw [decide_eq_true_iff]; omega
          have H2 := Lib.hid (wstr_c B b m1 s wr HM1.out (by omega))
          rw [Hbu.out] at H2
          have HN : Hid (addW [] (ws.drop k) = addW (m1 ++ s) (ws.drop (k + 1))) := by
            refine Lib.hid ?_
            rw [List.drop_eq_getElem_cons (by rw [Hl.out]; exact hlt), addW]
            have e1 : ws[k]'(by rw [Hl.out]; exact hlt) = s := by have := Hs.out; rw [List.getElem?_eq_getElem (by rw [Hl.out]; exact hlt)] at this; exact Option.some.inj this
            rw [e1, show blankW [] = m1 from Em1.out.symm, if_pos hfit]
          have Hfit := Lib.hid hfit
          clear hfit
          simp only [hd, if_true]
          go_wp2_with fail
          refine H2.out.mono ?_
          rintro e w7 ⟨rfl, hw7, hk7⟩
          have HM7 := Lib.hid hw7
          have HK7 := Lib.hid (hwk.out.trans hk7)
          clear hw7 hk7 H2
          go_wp2_with fail
          go_roundw
          case rel => exact ⟨k + 1, m1 ++ s, hlt, by simp, HM7, HK7, by have := HN.out; rw [← this]; exact Hj, by have := Hfit.out; refine Lib.hid ?_; simp; omega⟩
          case measure => simp [intOf]; omega
        · have hd : decide ((m1.length : Int) + (s.length : Int) ≤ 20000) = false := by rw [decide_eq_false_iff_not]; omega
          simp only [hd]
          refine ⟨rfl, ?_⟩
          rw [← HS.out]
          have HN : addW [] (ws.drop k) = none := by
            rw [List.drop_eq_getElem_cons (by rw [Hl.out]; exact hlt), addW]
            have e1 : ws[k]'(by rw [Hl.out]; exact hlt) = s := by have := Hs.out; rw [List.getElem?_eq_getElem (by rw [Hl.out]; exact hlt)] at this; exact Option.some.inj this
            rw [e1, show blankW [] = m1 from Em1.out.symm, if_neg hfit]
          rw [Hj.out, HN]
          exact ⟨rfl, hwk.out⟩
      · have hn0 : lc.length ≠ 0 := by simpa using hnil
        obtain ⟨n, hn⟩ : ∃ n, lc.length = n := ⟨_, rfl⟩
        have HLn := wlen_c B b lc wr hwr.out
        rw [hn] at HLn hn0 hlc2
        have HLn := Lib.hid HLn
        have Hnil := Lib.hid hnil
        have Hn := Lib.hid hn
        clear hnil hn
        go_wp2_with fail
        refine HLn.out.mono ?_
        rintro e w2 ⟨rfl, hw9⟩
        obtain rfl := hw9.symm
        go_wp2_with fail
        refine (wblank_c B b lc wr hwr.out (by rw [Hn.out]; exact hlc2)).mono ?_
        rintro e w3 ⟨rfl, hw3, hk3⟩
        obtain ⟨m2, hm2⟩ : ∃ m2 : List UInt8, m2 = lc ++ [32] := ⟨_, rfl⟩
        rw [← hm2] at hw3
        have HM2 := Lib.hid hw3
        have HK2 := Lib.hid (hwk.out.trans hk3)
        have hm2l : m2.length ≤ 20001 := by rw [hm2]; simp; rw [Hn.out]; exact hlc2
        have Em2 := Lib.hid hm2
        clear hm2 hw3 hk3
        go_wp2_with fail
        refine (wlen_c B b m2 w3 HM2.out).mono ?_
        rintro e w5 ⟨rfl, hw9⟩
        obtain rfl := hw9.symm
        go_wp2_with fail
        refine (req_c _ _).mono ?_
        rintro e w6 ⟨rfl, hw9⟩
        obtain rfl := hw9.symm
        by_cases hfit : m2.length + s.length ≤ 20000
        · have hd : decide ((m2.length : Int) + (s.length : Int) ≤ 20000) = true := by rw [decide_eq_true_iff]; omega
          have H2 := Lib.hid (wstr_c B b m2 s w3 HM2.out (by omega))
          rw [Hbu.out] at H2
          have HN : Hid (addW lc (ws.drop k) = addW (m2 ++ s) (ws.drop (k + 1))) := by
            refine Lib.hid ?_
            rw [List.drop_eq_getElem_cons (by rw [Hl.out]; exact hlt), addW]
            have e1 : ws[k]'(by rw [Hl.out]; exact hlt) = s := by have := Hs.out; rw [List.getElem?_eq_getElem (by rw [Hl.out]; exact hlt)] at this; exact Option.some.inj this
            rw [e1, show blankW lc = m2 by rw [Em2.out]; exact if_neg Hnil.out, if_pos hfit]
          have Hfit := Lib.hid hfit
          clear hfit
          simp only [hd, if_true]
          go_wp2_with fail
          refine H2.out.mono ?_
          rintro e w7 ⟨rfl, hw7, hk7⟩
          have HM7 := Lib.hid hw7
          have HK7 := Lib.hid (HK2.out.trans hk7)
          clear hw7 hk7 H2
          go_wp2_with fail
          go_roundw
          case rel => exact ⟨k + 1, m2 ++ s, hlt, by simp, HM7, HK7, by have := HN.out; rw [← this]; exact Hj, by have := Hfit.out; refine Lib.hid ?_; simp; omega⟩
          case measure => simp [intOf]; omega
        · have hd : decide ((m2.length : Int) + (s.length : Int) ≤ 20000) = false := by rw [decide_eq_false_iff_not]; omega
          simp only [hd]
          refine ⟨rfl, ?_⟩
          rw [← HS.out]
          have HN : addW lc (ws.drop k) = none := by
            rw [List.drop_eq_getElem_cons (by rw [Hl.out]; exact hlt), addW]
            have e1 : ws[k]'(by rw [Hl.out]; exact hlt) = s := by have := Hs.out; rw [List.getElem?_eq_getElem (by rw [Hl.out]; exact hlt)] at this; exact Option.some.inj this
            rw [e1, show blankW lc = m2 by rw [Em2.out]; exact if_neg Hnil.out, if_neg hfit]
          rw [Hj.out, HN]
          exact ⟨rfl, HK2.out⟩
    · obtain rfl : k = nw := by omega
      go_wp2
      go_end0
      rw [← HS.out, Hj.out, List.drop_eq_nil_of_le (by rw [Hl.out]; exact Nat.le_refl _), addW]
      exact ⟨rfl, hwr.out, hlc.out, hwk.out⟩
end Go.Proofs.YtjgpmnffagdhlaaGreatDoor
namespace Go.Proofs.YtjgpmnffagdhlaaGreatDoor
open Go Go.RowKit
set_option maxRecDepth 100000
theorem may_isW {t : Tk} (h : mayT t = true) {s : List UInt8} (hs : s ≠ []) : isW s t = (t.t.data.toList == s) := by
  unfold isW
  by_cases hk : t.k = 1
  · have h2 : t.t.data.toList = [] := by
      unfold mayT at h
      simp [hk] at h
      have := h.1
      rw [← ByteArray.toList_eq]; exact this
    rw [h2]
    have : (([] : List UInt8) == s) = false := by
      cases s with
      | nil => exact absurd rfl hs
      | cons a r => rfl
    rw [this, Bool.and_false]
  · have : (t.k != 1) = true := by simpa using hk
    rw [this, Bool.true_and]
theorem sees_take {l : List Tk} (h : ∀ t ∈ l, mayT t = true) {s : List UInt8} (hs : s ≠ []) : (takeP s l).1 = seesB [s] l ∧ (takeP s l).2 = if seesB [s] l then l.drop 1 else l := by
  cases l with
  | nil => exact ⟨rfl, rfl⟩
  | cons t r =>
    have e := may_isW (h t (by simp)) hs
    rw [takeP, seesB, seesB, Bool.and_true, ← e]
    cases isW s t <;> exact ⟨rfl, rfl⟩
theorem need_take {s : List UInt8} (l : List Tk) : needP s l = if (takeP s l).1 then some (takeP s l).2 else none := by
  cases l with
  | nil => rfl
  | cons t r =>
    rw [needP, takeP]
    cases isW s t <;> rfl
/-- One word, in a block that is made for it. -/
abbrev wd1 (w : World) (s : List UInt8) : World := w.alloc (.cells #[.string (ba s)] 9)
theorem slW (w : World) (s : List UInt8) : SlG (wd1 w s) (some ⟨w.heap.size, 0, none⟩) 1 rdS [s] := SlG.new (rd := rdS) (S := 1) (fun _ => rfl) [s] rfl
theorem sees1_c (b g : Nat) (l : List Tk) (s : List UInt8) (hs : s ≠ []) (w : World) (hg : w.heap.size = g) (hR : Rq w b l) :
    Calls Tryz.prog 149 #[.pointer (some ⟨b, 0, none⟩), .slice (some ⟨g, 0, none⟩) 1 1] (wd1 w s) fun e w' => e = .returned (.bool (takeP s l).1) ∧ w' = wd1 w s := by
  subst hg
  rw [(sees_take hR.may hs).1]
  exact sees_c b l [s] _ 1 1 _ (hR.alloc _) (slW w s) rfl (by decide)
theorem has1_c (b g : Nat) (l : List Tk) (s : List UInt8) (hs : s ≠ []) (w : World) (hg : w.heap.size = g) (hR : Rq w b l) :
    Calls Tryz.prog 146 #[.pointer (some ⟨b, 0, none⟩), .slice (some ⟨g, 0, none⟩) 1 1] (wd1 w s) fun e w' => e = .returned (.bool (takeP s l).1) ∧ Rq w' b (takeP s l).2 ∧ Apb b w w' := by
  subst hg
  rw [(sees_take hR.may hs).1, (sees_take hR.may hs).2]
  refine (has_c b l [s] _ 1 1 _ (hR.alloc _) (slW w s) rfl (by decide) (by decide)).mono ?_
  rintro e w1 ⟨h1, h2, h3⟩
  exact ⟨h1, h2, h3.of_alloc⟩
set_option maxHeartbeats 1000000 in
theorem must1_c (b g : Nat) (l : List Tk) (s : List UInt8) (hs : s ≠ []) (w : World) (hg : w.heap.size = g) (hR : Rq w b l) :
    Calls Tryz.prog 142 #[.pointer (some ⟨b, 0, none⟩), .slice (some ⟨g, 0, none⟩) 1 1] (wd1 w s) fun e w' => match needP s l with
      | none => e = .panicked (boom 70) ∧ Apb b w w'
      | some r => e = .returned (.tuple #[]) ∧ Rq w' b r ∧ Apb b w w' := by
  have HH := Lib.hid (has1_c b g l s hs w hg hR)
  rw [need_take]
  obtain ⟨W, hW⟩ : ∃ W, wd1 w s = W := ⟨_, rfl⟩
  rw [hW] at HH ⊢
  cases hq : (takeP s l).1
  · simp only [Bool.false_eq_true, if_false]
    rw [hq] at HH
    clear hR hW hq
    go_enter Tryz.func142, Tryz.ntmps142
    go_wp2_with fail
    refine HH.out.mono ?_
    rintro e w1 ⟨rfl, _, hb⟩
    have Hb := Lib.hid hb
    clear HH hb
    go_wp2_with fail
    refine (req_no _).mono ?_
    rintro e w2 ⟨rfl, rfl⟩
    exact ⟨rfl, rfl, Hb.out⟩
  · simp only [if_true]
    rw [hq] at HH
    clear hR hW hq
    go_enter Tryz.func142, Tryz.ntmps142
    go_wp2_with fail
    refine HH.out.mono ?_
    rintro e w1 ⟨rfl, hr, hb⟩
    have Hb := Lib.hid hb
    have Hr := Lib.hid hr
    clear HH hb hr
    go_wp2_with fail
    refine (req_yes _).mono ?_
    rintro e w2 ⟨rfl, rfl⟩
    go_wp2
    go_end0
    exact ⟨rfl, Hr.out, Hb.out⟩
/-- A function whose one result is a token, at its return. -/
theorem ret_tok1 {fn : Func} {R : Ending → World → Prop} {F : Act} {w : World} {t : Tmp} {b : Nat} {a : Tk} (hres : fn.results = #[.cell t 129]) (ht : Reg.slot F t = .pointer (some ⟨b, 0, none⟩)) (hb : Bt w b a) (hd : F.defers = [])
    (hR : R (.returned a.val) w) : bodyPost Tryz.prog fn R .ret F w := by
  have h0 := hb.cell0
  have h1 := hb.cell1
  have h2 := hb.cell2
  have h3 := hb.cell3
  have h4 := hb.cell4
  refine bodyPost_ret (v := a.val) ?_ hd hR
  have ht' : F.tmps[t]?.getD undef = .pointer (some ⟨b, 0, none⟩) := by simpa [Reg.slot] using ht
  simp [results, hres, ht', go_sem, h0, h1, h2, h3, h4]
set_option maxHeartbeats 2000000 in
theorem rtake_nil (b : Nat) (w : World) (hR : Rq w b []) :
    Calls Tryz.prog 140 #[.pointer (some ⟨b, 0, none⟩)] w fun e w' => e = .panicked (boom 70) ∧ Apb b w w' := by
  have HD := Lib.hid (done_c b [] _ (hR.alloc (tk0.obj)))
  clear hR
  go_enter Tryz.func140, Tryz.ntmps140
  go_wp2_with fail
  refine HD.out.mono ?_
  rintro e w1 ⟨rfl, rfl⟩
  have e0 : ([] : List Tk).isEmpty = true := rfl
  rw [e0]
  go_wp2_with fail
  refine (req_no _).mono ?_
  rintro e w2 ⟨rfl, rfl⟩
  exact ⟨rfl, rfl, (Apb.refl b w).alloc _⟩
set_option maxHeartbeats 2000000 in
theorem rtake_c (b : Nat) (t : Tk) (r : List Tk) (w : World) (hR : Rq w b (t :: r)) :
    Calls Tryz.prog 140 #[.pointer (some ⟨b, 0, none⟩)] w fun e w' => e = .returned t.val ∧ Rq w' b r ∧ Apb b w w' := by
  have HD := Lib.hid (done_c b (t :: r) _ (hR.alloc (tk0.obj)))
  have hbs := hR.lt
  obtain ⟨A, n, c, m, hb, hn, hc, hm, hT, hmb, hmo, hmay⟩ := hR
  unfold maxLen at hm
  obtain ⟨c2, off, hA, hcb, h2⟩ : ∃ c2 off, A = some ⟨c2, off, none⟩ ∧ c2 < b ∧ ∀ i x, (t :: r)[i]? = some x → ∀ j u, (rdT x)[j]? = some u → w.cell? ⟨c2, off + i * 5 + j, none⟩ = some u := by
    rcases hT with h | h
    · cases h
    · exact h
  subst hA
  have hn0 : 0 < n := by rw [← hn]; simp
  have hcs : c2 < w.heap.size := by omega
  have c0 := hb.cell 0
  simp only [List.getElem?_toArray, List.getElem?_cons_zero] at c0
  have f0 := hb.thaw 0
  have d0 := h2 0 t rfl 0 _ rfl
  have d1 := h2 0 t rfl 1 _ rfl
  have d2 := h2 0 t rfl 2 _ rfl
  have d3 := h2 0 t rfl 3 _ rfl
  have d4 := h2 0 t rfl 4 _ rfl
  simp only [Nat.zero_mul, Nat.add_zero] at d0 d1 d2 d3 d4
  have key : ∀ A', Tks w b A' r → Rq (w.setCell ⟨b, 0, none⟩ (.slice A' (n - 1) (c - 1))) b r := fun A' hA' => by
    refine ⟨A', n - 1, c - 1, m, hb.set 0 _, by rw [← hn]; simp, by omega, by unfold maxLen; omega, hA'.same fun k hk => Below.heap_setCell _ _ _ _ (show k ≠ b by omega), hmb, ?_, by have := hmay.1; simp at this; omega, fun t ht => hmay.2 t (List.mem_cons_of_mem _ ht)⟩
    exact (Below.heap_setCell _ _ _ _ (show m ≠ b by omega)).trans hmo
  have hT2 : Tks w b (some ⟨c2, off + 1 * 5, none⟩) r := by
    have := Tks.drop (n := n) (.inr ⟨c2, off, rfl, hcb, h2⟩ : Tks w b (some ⟨c2, off, none⟩) (t :: r)) 1
    exact this
  have hT0 : c = 1 → Tks w b (some ⟨c2, off, none⟩) r := fun h1 => .inl (by
    have : r.length = 0 := by simp at hn; omega
    exact List.eq_nil_of_length_eq_zero this)
  have hfin : ∀ (v : World), v.heap.size = w.heap.size → Rq v b r → Apb b w v → Bt ((v.alloc t.obj).alloc t.obj) w.heap.size t ∧ Rq ((v.alloc t.obj).alloc t.obj) b r ∧ Apb b w ((v.alloc t.obj).alloc t.obj) := fun v hv hr ha => by
    refine ⟨?_, (hr.alloc _).alloc _, (ha.alloc _).alloc _⟩
    rw [← hv]
    exact (Bt.new v t).after (below_one _ _)
  have hset : ∀ v : Value, (w.setCell ⟨b, 0, none⟩ v).heap.size = w.heap.size := fun v => by simp [World.setCell]
  have Hset := Lib.hid hset
  have Hfin := Lib.hid hfin
  have Key := Lib.hid key
  have HT2 := Lib.hid hT2
  have HT0 := Lib.hid hT0
  clear key hT2 hT0 h2 hT hb hmo hmay hn hfin hset
  go_enter Tryz.func140, Tryz.ntmps140
  go_wp2_with fail
  refine HD.out.mono ?_
  rintro e w1 ⟨rfl, rfl⟩
  have e0 : (t :: r).isEmpty = false := rfl
  rw [e0]
  clear HD e0
  go_wp2_with fail
  refine (req_yes _).mono ?_
  rintro e w2 ⟨rfl, rfl⟩
  by_cases hc1 : c = 1
  · have HK := Lib.hid (Key.out _ (HT0.out hc1))
    obtain rfl : n = 1 := by omega
    subst hc1
    clear Key HT0 HT2
    go_wp2
    obtain ⟨h1, h2, h3⟩ := Hfin.out _ (Hset.out _) HK.out ((Apb.refl b w).set 0 _)
    exact ret_tok1 Tryz.results140 rfl h1 rfl ⟨rfl, h2, h3⟩
  · have HK := Lib.hid (Key.out _ HT2.out)
    clear Key HT0 HT2
    go_wp2
    obtain ⟨h1, h2, h3⟩ := Hfin.out _ (Hset.out _) HK.out ((Apb.refl b w).set 0 _)
    exact ret_tok1 Tryz.results140 rfl h1 rfl ⟨rfl, h2, h3⟩
end Go.Proofs.YtjgpmnffagdhlaaGreatDoor
namespace Go.Proofs.YtjgpmnffagdhlaaGreatDoor
open Go Go.RowKit
set_option maxRecDepth 100000
set_option maxHeartbeats 4000000 in
theorem kept_c (s : ByteArray) (w : World) : Calls Tryz.prog 176 #[.string s] w fun e w' => e = .returned (.bool (kws.contains s.data.toList)) ∧ w' = w := by
  obtain ⟨R, hR⟩ : ∃ R, kws.contains s.data.toList = R := ⟨_, rfl⟩
  rw [hR]
  rw [← ByteArray.toList_eq] at hR
  have HR := Lib.hid hR
  clear hR
  go_enter Tryz.func176, Tryz.ntmps176
  go_wp2
  all_goals go_ret
  all_goals (refine ⟨?_, rfl⟩)
  all_goals first
    | (exfalso; rename_i h1 h2; rw [h1] at h2; exact absurd h2 (by decide))
    | (show Ending.returned (.bool _) = _
       congr 2
       rw [← HR.out]
       clear HR
       simp only [kws, List.contains_cons, List.contains_nil]
       simp only [w_table, w_check, w_view, w_from, w_join, w_on, w_where, w_pick, w_group, w_bool, w_int, w_text, w_null, w_unique, w_ref, w_restrict, w_cascade, w_setnull, w_count, w_sum, w_min, w_max, w_true, w_false, w_and, w_or, w_not, *]
       rfl)
theorem isCol_c (n : Int) (w : World) : Calls Tryz.prog 178 #[.int .i64 n] w fun e w' => e = .returned (.bool (colB n)) ∧ w' = w := by
  unfold colB
  by_cases h : 0 ≤ n
  · have h1 : decide (0 ≤ n) = true := by simpa using h
    rw [h1]
    go_enter Tryz.func178, Tryz.ntmps178
    go_wp2
    go_ret
    exact ⟨by first | rfl | simp, rfl⟩
  · have h1 : decide (0 ≤ n) = false := by simpa using h
    rw [h1]
    go_enter Tryz.func178, Tryz.ntmps178
    go_wp2
    go_ret
    exact ⟨by first | rfl | simp, rfl⟩
end Go.Proofs.YtjgpmnffagdhlaaGreatDoor
namespace Go.Proofs.YtjgpmnffagdhlaaGreatDoor
open Go Go.RowKit
set_option maxRecDepth 100000
theorem name_may {t : Tk} (h : mayT t = true) (r : List Tk) : nameP (t :: r) = if t.k = 0 ∧ kws.contains t.t.data.toList = false then some (t.t, r) else none := by
  rw [nameP]
  by_cases hk : t.k = 0
  · have hw : wordB t.t.data.toList = true := by
      unfold mayT at h
      simp [hk] at h
      exact h.1
    have e0 : (t.k == 0) = true := by simpa using hk
    rw [e0, Bool.true_and, nameB, hw, Bool.true_and]
    cases kws.contains t.t.data.toList <;> simp [hk]
  · have e0 : (t.k == 0) = false := by simpa using hk
    rw [e0, Bool.false_and]
    simp [hk]
set_option maxHeartbeats 4000000 in
theorem name_cR (b : Nat) (l : List Tk) (w : World) (hR : Rq w b l) :
    Calls Tryz.prog 141 #[.pointer (some ⟨b, 0, none⟩)] w fun e w' => match nameP l with
      | none => e = .panicked (boom 70) ∧ Apb b w w'
      | some q => e = .returned (.string q.1) ∧ Rq w' b q.2 ∧ Apb b w w' := by
  cases l with
  | nil =>
    have HT := Lib.hid (rtake_nil b w hR)
    show Calls _ _ _ _ fun e w' => e = .panicked (boom 70) ∧ Apb b w w'
    clear hR
    go_enter Tryz.func141, Tryz.ntmps141
    go_wp2_with fail
    refine HT.out.mono ?_
    rintro e w1 ⟨rfl, hb⟩
    exact ⟨rfl, rfl, hb⟩
  | cons t r =>
    have HT := Lib.hid (rtake_c b t r w hR)
    rw [name_may (hR.may t (by simp))]
    clear hR
    by_cases hk : t.k = 0
    · cases hc : kws.contains t.t.data.toList
      · rw [if_pos ⟨hk, rfl⟩]
        show Calls _ _ _ _ fun e w' => e = .returned (.string t.t) ∧ Rq w' b r ∧ Apb b w w'
        have HK := Lib.hid (fun v => kept_c t.t v)
        rw [hc] at HK
        have e0 : (t.k == 0) = true := by simpa using hk
        have e1 : decide (t.k = 0) = true := by simpa using hk
        clear hk hc
        go_enter Tryz.func141, Tryz.ntmps141
        go_wp2_with fail
        refine HT.out.mono ?_
        rintro e w1 ⟨rfl, hr, hb⟩
        have Hr := Lib.hid hr
        have Hb := Lib.hid hb
        clear HT hr hb
        go_wp2_with fail
        refine (HK.out _).mono ?_
        rintro e w2 ⟨rfl, rfl⟩
        go_wp2_with fail
        refine (req_yes _).mono ?_
        rintro e w3 ⟨rfl, rfl⟩
        go_wp2
        go_ret
        exact ⟨rfl, Hr.out.alloc _, Hb.out.alloc _⟩
      · rw [if_neg (by simp)]
        show Calls _ _ _ _ fun e w' => e = .panicked (boom 70) ∧ Apb b w w'
        have HK := Lib.hid (fun v => kept_c t.t v)
        rw [hc] at HK
        have e0 : (t.k == 0) = true := by simpa using hk
        have e1 : decide (t.k = 0) = true := by simpa using hk
        clear hk hc
        go_enter Tryz.func141, Tryz.ntmps141
        go_wp2_with fail
        refine HT.out.mono ?_
        rintro e w1 ⟨rfl, hr, hb⟩
        have Hr := Lib.hid hr
        have Hb := Lib.hid hb
        clear HT hr hb
        go_wp2_with fail
        refine (HK.out _).mono ?_
        rintro e w2 ⟨rfl, rfl⟩
        go_wp2_with fail
        refine (req_no _).mono ?_
        rintro e w3 ⟨rfl, rfl⟩
        exact ⟨rfl, rfl, Hb.out.alloc _⟩
    · rw [if_neg (fun h => hk h.1)]
      show Calls _ _ _ _ fun e w' => e = .panicked (boom 70) ∧ Apb b w w'
      have e0 : (t.k == 0) = false := by simpa using hk
      have e1 : decide (t.k = 0) = false := by simpa using hk
      clear hk
      go_enter Tryz.func141, Tryz.ntmps141
      go_wp2_with fail
      refine HT.out.mono ?_
      rintro e w1 ⟨rfl, hr, hb⟩
      have Hr := Lib.hid hr
      have Hb := Lib.hid hb
      clear HT hr hb
      go_wp2_with fail
      refine (req_no _).mono ?_
      rintro e w3 ⟨rfl, rfl⟩
      exact ⟨rfl, rfl, Hb.out.alloc _⟩
theorem col_may {t : Tk} (h : mayT t = true) (r : List Tk) : colP (t :: r) = if t.v.k = 2 ∧ colB t.v.n = true then some (t.v.n, r) else none := by
  rw [colP]
  unfold colB
  by_cases hk : t.v.k = 2
  · have h1 : t.k = 1 := by
      unfold mayT at h
      by_cases h0 : t.k = 1
      · exact h0
      · exfalso
        have h5 : t.v.k = 0 := by
          have hv : ∀ x : Val, x.eq nl = true → x.k = 0 := fun x hx => by rw [Val.eq_iff.1 hx]; rfl
          by_cases h2 : t.k = 0
          · simp [h2] at h
            first | exact hv _ h.2 | (rw [h.2]) | (have := h.2; rw [this])
          · by_cases h3 : t.k = 2
            · simp [h3] at h
              first | exact hv _ h.2 | (rw [h.2]) | (have := h.2; rw [this])
            · simp [h0, h2, h3] at h
        omega
    have e0 : (t.k == 1) = true := by simpa using h1
    have e1 : (t.v.k == 2) = true := by simpa using hk
    rw [e0, e1, Bool.true_and, Bool.true_and]
    simp [hk]
  · have e1 : (t.v.k == 2) = false := by simpa using hk
    rw [e1, Bool.false_and, Bool.and_false]
    simp [hk]
set_option maxHeartbeats 4000000 in
theorem col_cR (b : Nat) (l : List Tk) (w : World) (hR : Rq w b l) :
    Calls Tryz.prog 151 #[.pointer (some ⟨b, 0, none⟩)] w fun e w' => match colP l with
      | none => e = .panicked (boom 70) ∧ Apb b w w'
      | some q => e = .returned (.int .i64 q.1) ∧ Rq w' b q.2 ∧ Apb b w w' := by
  cases l with
  | nil =>
    have HT := Lib.hid (rtake_nil b w hR)
    show Calls _ _ _ _ fun e w' => e = .panicked (boom 70) ∧ Apb b w w'
    clear hR
    go_enter Tryz.func151, Tryz.ntmps151
    go_wp2_with fail
    refine HT.out.mono ?_
    rintro e w1 ⟨rfl, hb⟩
    exact ⟨rfl, rfl, hb⟩
  | cons t r =>
    have HT := Lib.hid (rtake_c b t r w hR)
    rw [col_may (hR.may t (by simp))]
    clear hR
    by_cases hk : t.v.k = 2
    · cases hc : colB t.v.n
      · rw [if_neg (by simp)]
        show Calls _ _ _ _ fun e w' => e = .panicked (boom 70) ∧ Apb b w w'
        have HK := Lib.hid (fun v => isCol_c t.v.n v)
        rw [hc] at HK
        have e0 : (t.v.k == 2) = true := by simpa using hk
        have e1 : decide (t.v.k = 2) = true := by simpa using hk
        clear hk hc
        go_enter Tryz.func151, Tryz.ntmps151
        go_wp2_with fail
        refine HT.out.mono ?_
        rintro e w1 ⟨rfl, hr, hb⟩
        have Hr := Lib.hid hr
        have Hb := Lib.hid hb
        clear HT hr hb
        go_wp2_with fail
        refine (HK.out _).mono ?_
        rintro e w2 ⟨rfl, rfl⟩
        go_wp2_with fail
        refine (req_no _).mono ?_
        rintro e w3 ⟨rfl, rfl⟩
        exact ⟨rfl, rfl, Hb.out.alloc _⟩
      · rw [if_pos ⟨hk, rfl⟩]
        show Calls _ _ _ _ fun e w' => e = .returned (.int .i64 t.v.n) ∧ Rq w' b r ∧ Apb b w w'
        have HK := Lib.hid (fun v => isCol_c t.v.n v)
        rw [hc] at HK
        have e0 : (t.v.k == 2) = true := by simpa using hk
        have e1 : decide (t.v.k = 2) = true := by simpa using hk
        clear hk hc
        go_enter Tryz.func151, Tryz.ntmps151
        go_wp2_with fail
        refine HT.out.mono ?_
        rintro e w1 ⟨rfl, hr, hb⟩
        have Hr := Lib.hid hr
        have Hb := Lib.hid hb
        clear HT hr hb
        go_wp2_with fail
        refine (HK.out _).mono ?_
        rintro e w2 ⟨rfl, rfl⟩
        go_wp2_with fail
        refine (req_yes _).mono ?_
        rintro e w3 ⟨rfl, rfl⟩
        go_wp2
        go_ret
        exact ⟨rfl, Hr.out.alloc _, Hb.out.alloc _⟩
    · rw [if_neg (fun h => hk h.1)]
      show Calls _ _ _ _ fun e w' => e = .panicked (boom 70) ∧ Apb b w w'
      have e0 : (t.v.k == 2) = false := by simpa using hk
      have e1 : decide (t.v.k = 2) = false := by simpa using hk
      clear hk
      go_enter Tryz.func151, Tryz.ntmps151
      go_wp2_with fail
      refine HT.out.mono ?_
      rintro e w1 ⟨rfl, hr, hb⟩
      have Hr := Lib.hid hr
      have Hb := Lib.hid hb
      clear HT hr hb
      go_wp2_with fail
      refine (req_no _).mono ?_
      rintro e w3 ⟨rfl, rfl⟩
      exact ⟨rfl, rfl, Hb.out.alloc _⟩
end Go.Proofs.YtjgpmnffagdhlaaGreatDoor
namespace Go.Proofs.YtjgpmnffagdhlaaGreatDoor
open Go Go.RowKit
set_option maxRecDepth 100000
theorem ba_beq {s : List UInt8} {b : ByteArray} : (b.data.toList == s) = decide (ba s = b) := by
  rw [Bool.eq_iff_iff, beq_iff_eq, decide_eq_true_eq]
  constructor
  · intro h; obtain ⟨⟨l⟩⟩ := b; simp at h; rw [h]
  · intro h; rw [← h]
def idxV : Option Int → Int
  | none => -1
  | some k => k
theorem oneF_idx {t : Tk} (h : mayT t = true) : ∀ (ws : List (List UInt8)) (i : Nat), (∀ s ∈ ws, s ≠ []) → Lib.idxFromS (ws.map ba) t.t i = idxV (oneF ws (i : Int) t)
  | [], i, _ => rfl
  | s :: ws, i, hs => by
    have ih := oneF_idx h ws (i + 1) (fun x hx => hs x (List.mem_cons_of_mem _ hx))
    have e := may_isW h (hs s (by simp))
    rw [List.map_cons, Lib.idxFromS, oneF, e, ba_beq, ih]
    by_cases hb : ba s = t.t
    · rw [if_pos hb, if_pos (by simpa using hb)]; rfl
    · rw [if_neg hb, if_neg (by simpa using hb)]; rfl
theorem oneF_pos {t : Tk} : ∀ (ws : List (List UInt8)) (i k : Int), oneF ws i t = some k → i ≤ k ∧ k < i + ws.length
  | [], _, _, h => by cases h
  | s :: ws, i, k, h => by
    rw [oneF] at h
    split at h
    · simp at h; subst h; simp only [List.length_cons]; omega
    · have := oneF_pos ws (i + 1) k h
      simp only [List.length_cons]; omega
theorem SlG.map {w : World} {A : Option Addr} {ws : List (List UInt8)} (h : SlG w A 1 rdS ws) (hn : ws ≠ []) : ∃ b off, A = some ⟨b, off, none⟩ ∧ b < w.heap.size ∧ ∀ j, j < (ws.map ba).length → w.cell? ⟨b, off + j, none⟩ = some (.string ((ws.map ba).getD j ByteArray.empty)) := by
  rcases h with h | ⟨b, off, hA, hlt, h⟩
  · exact absurd h hn
  · refine ⟨b, off, hA, hlt, fun j hj => ?_⟩
    rw [List.length_map] at hj
    have := h j ws[j] (List.getElem?_eq_getElem hj) 0 _ rfl
    rw [Nat.mul_one, Nat.add_zero] at this
    rw [this]
    congr 2
    rw [List.getD_eq_getElem?_getD, List.getElem?_map, List.getElem?_eq_getElem hj]
    rfl
theorem run_tokText (t : Tk) (w : World) : (Instr.field 129 (.agg #[.int .i64 t.k, .string t.t, .int .i64 t.v.k, .int .i64 t.v.n, .string t.v.s]) 1).run Tryz.prog w = .ok (.string t.t) w := by kernel_rfl
set_option maxHeartbeats 4000000 in
theorem choice_cR (b : Nat) (l : List Tk) (ws : List (List UInt8)) (Aw : Option Addr) (nw cw : Nat) (w : World) (hR : Rq w b l) (hW : SlG w Aw 1 rdS ws) (hA : ∀ k, Aw.map (·.block) = some k → k ≠ b) (hnw : ws.length = nw) (hmw : nw ≤ maxLen) (h0 : ∀ s ∈ ws, s ≠ []) (hw0 : ws ≠ []) :
    Calls Tryz.prog 100 #[.pointer (some ⟨b, 0, none⟩), .slice Aw nw cw] w fun e w' => match oneP ws l with
      | none => e = .panicked (boom 70) ∧ Apb b w w'
      | some q => e = .returned (.int .i64 q.1) ∧ Rq w' b q.2 ∧ Apb b w w' := by
  cases l with
  | nil =>
    have HT := Lib.hid (rtake_nil b w hR)
    show Calls _ _ _ _ fun e w' => e = .panicked (boom 70) ∧ Apb b w w'
    clear hR hW hA hnw hmw h0 hw0
    go_enter Tryz.func100, Tryz.ntmps100
    go_wp2_with fail
    refine HT.out.mono ?_
    rintro e w1 ⟨rfl, hb⟩
    exact ⟨rfl, rfl, hb⟩
  | cons t r =>
    have HT := Lib.hid (rtake_c b t r w hR)
    have hI := oneF_idx (hR.may t (by simp)) ws 0 h0
    have HX : Hid (∀ w' , Apb b w w' → ∃ bw ow, Aw = some ⟨bw, ow, none⟩ ∧ ∀ j, j < (ws.map ba).length → w'.cell? ⟨bw, ow + j, none⟩ = some (.string ((ws.map ba).getD j ByteArray.empty))) := Lib.hid (fun w' hb => by
      obtain ⟨bw, ow, e1, _, e2⟩ := (hW.kept (B := 0) hb hA).map hw0
      exact ⟨bw, ow, e1, e2⟩)
    have hle : (ws.map ba).length = nw := by rw [List.length_map, hnw]
    unfold maxLen at hmw
    have HI : Hid (Lib.idxOfS ((ws.map ba).take nw) t.t = idxV (oneF ws 0 t)) := Lib.hid (by rw [List.take_of_length_le (by omega)]; exact hI)
    have Hle := Lib.hid hle
    show Calls _ _ _ _ fun e w' => match (oneF ws 0 t).map fun i => (i, r) with
      | none => e = .panicked (boom 70) ∧ Apb b w w'
      | some q => e = .returned (.int .i64 q.1) ∧ Rq w' b q.2 ∧ Apb b w w'
    clear hR hW hA hnw h0 hw0 hI hle
    cases ho : oneF ws 0 t with
    | none =>
      rw [ho] at HI
      show Calls _ _ _ _ fun e w' => e = .panicked (boom 70) ∧ Apb b w w'
      clear ho
      go_enter Tryz.func100, Tryz.ntmps100
      go_wp2_with fail
      refine HT.out.mono ?_
      rintro e w1 ⟨rfl, hr, hb⟩
      obtain ⟨bw, ow, rfl, hc⟩ := HX.out _ hb
      have Hb := Lib.hid hb
      have Hc := Lib.hid hc
      clear HT hr hb hc HX
      have hfld := run_tokText t
      go_wp2_with fail
      refine (Tryz.slices_Index_string bw ow nw cw (ws.map ba) t.t _ (by have := Hle.out; omega) (by omega) Hc.out).mono ?_
      rintro e w2 ⟨rfl, rfl⟩
      rw [HI.out]
      have e1 : idxV none = -1 := rfl
      rw [e1]
      clear HI Hc Hle
      go_wp2_with fail
      refine (req_no _).mono ?_
      rintro e w3 ⟨rfl, rfl⟩
      exact ⟨rfl, rfl, Hb.out⟩
    | some k =>
      rw [ho] at HI
      have hk := (oneF_pos ws 0 k ho).1
      have hk2 := (oneF_pos ws 0 k ho).2
      show Calls _ _ _ _ fun e w' => e = .returned (.int .i64 k) ∧ Rq w' b r ∧ Apb b w w'
      have hk3 : k ≤ 9223372036854775807 := by have := Hle.out; rw [List.length_map] at this; omega
      have hdk : decide (0 ≤ k) = true := by simpa using hk
      clear ho hk2
      go_enter Tryz.func100, Tryz.ntmps100
      go_wp2_with fail
      refine HT.out.mono ?_
      rintro e w1 ⟨rfl, hr, hb⟩
      obtain ⟨bw, ow, rfl, hc⟩ := HX.out _ hb
      have Hb := Lib.hid hb
      have Hr := Lib.hid hr
      have Hc := Lib.hid hc
      clear HT hr hb hc HX
      have hfld := run_tokText t
      go_wp2_with fail
      refine (Tryz.slices_Index_string bw ow nw cw (ws.map ba) t.t _ (by have := Hle.out; omega) (by omega) Hc.out).mono ?_
      rintro e w2 ⟨rfl, rfl⟩
      rw [HI.out]
      have e1 : idxV (some k) = k := rfl
      rw [e1]
      clear HI Hc Hle e1
      go_wp2_with fail
      refine (req_yes _).mono ?_
      rintro e w3 ⟨rfl, rfl⟩
      go_wp2
      go_ret
      exact ⟨rfl, Hr.out, Hb.out⟩
end Go.Proofs.YtjgpmnffagdhlaaGreatDoor
namespace Go.Proofs.YtjgpmnffagdhlaaGreatDoor
open Go Go.RowKit
set_option maxRecDepth 100000
/-- What an attempt at a number tells. -/
def AtS (o : Lib.NumEnd Int) (e : Ending) : Prop := match o with
  | .ok n => e = .returned (.tuple #[.int .i64 n, .nilIface])
  | _ => ∃ n p, e = .returned (.tuple #[.int .i64 n, .iface 206 (.pointer (some p))])
theorem atoi_c (d : ByteArray) (w : World) (hl : d.size ≤ 1000000) (hG : GL w) : Calls Tryz.prog 160 #[.string d] w fun e w' => AtS (Lib.atoiAll d.data.toList) e ∧ Below w.heap.size w w' := by
  cases ha : Lib.atoiAll d.data.toList with
  | ok v =>
    refine (Tryz.strconv_Atoi_ok d (by omega) v ha _).mono ?_
    rintro e w1 ⟨he, hb⟩
    refine ⟨he, ?_⟩
    rcases hb with rfl | ⟨t, rfl⟩
    · exact Below.refl _ _
    · exact Lib.bytesWorld_below _ _ _
  | «syntax» =>
    obtain ⟨tp, p, hv⟩ := hG.syn
    refine (Tryz.strconv_Atoi_syntax_var d (by omega) ha tp p _ hv).mono ?_
    rintro e w1 ⟨N, he, _, _, hb⟩
    exact ⟨⟨_, _, he⟩, hb⟩
  | range =>
    obtain ⟨tp, p, hv⟩ := hG.rng
    refine (Tryz.strconv_Atoi_range_var d (by omega) ha tp p _ hv).mono ?_
    rintro e w1 ⟨N, he, _, _, hb⟩
    exact ⟨⟨_, _, he⟩, hb⟩
theorem cnum_pre {l : List UInt8} (h : Lib.hasPrefix l [99] = false) : cnum l = none := by
  cases e : cnum l with
  | none => rfl
  | some n =>
    have := (cnum_lt e).2
    rw [this] at h
    unfold Lib.hasPrefix cWord at h
    simp at h
theorem cnum_dig {l : List UInt8} (h : Lib.hasPrefix l [99] = true) : l = 99 :: Lib.trimPrefix l [99] := by
  unfold Lib.trimPrefix
  rw [h]
  unfold Lib.hasPrefix at h
  cases l with
  | nil => cases h
  | cons c l =>
    simp [List.isPrefixOf] at h
    rw [h]; rfl
theorem cnum_bad {d : List UInt8} (h : ∀ v, Lib.atoiAll d ≠ .ok v) : cnum (99 :: d) = none := by
  cases e : cnum (99 :: d) with
  | none => rfl
  | some n =>
    have := cnum_lt e
    obtain ⟨h1, h2⟩ := this
    unfold cWord at h2
    simp at h2
    have h3 := atoi_itoa (n : Int) ⟨by omega, by omega⟩
    rw [← h2] at h3
    exact absurd h3 (h _)
theorem cnum_ok {d : List UInt8} {v : Int} (h : Lib.atoiAll d = .ok v) : cnum (99 :: d) = if colB v = true ∧ Lib.itoa v = d then some v.toNat else none := by
  unfold colB
  by_cases hv : (decide (0 ≤ v) && decide (v ≤ 99)) = true ∧ Lib.itoa v = d
  · rw [if_pos hv]
    obtain ⟨h1, h2⟩ := hv
    simp at h1
    have := cnum_c v.toNat (by omega)
    unfold cWord at this
    rw [show ((v.toNat : Nat) : Int) = v by omega, h2] at this
    exact this
  · rw [if_neg hv]
    cases e : cnum (99 :: d) with
    | none => rfl
    | some n =>
      exfalso
      obtain ⟨h1, h2⟩ := cnum_lt e
      unfold cWord at h2
      simp at h2
      have h3 := atoi_itoa (n : Int) ⟨by omega, by omega⟩
      rw [← h2, h] at h3
      simp at h3
      subst h3
      exact hv ⟨by simp; omega, h2.symm⟩
/-- What the number of a word tells. -/
def ColS (o : Option Nat) (e : Ending) : Prop := match o with
  | none => e = .panicked (boom 70)
  | some n => e = .returned (.int .i64 (n : Int))
set_option maxHeartbeats 4000000 in
theorem colOf_c (s : ByteArray) (w : World) (hl : s.size ≤ 1000000) (hG : GL w) : Calls Tryz.prog 187 #[.string s] w fun e w' => ColS (cnum s.data.toList) e ∧ Below w.heap.size w w' := by
  obtain ⟨C, hC⟩ : ∃ C, ColS (cnum s.data.toList) = C := ⟨_, rfl⟩
  rw [hC]
  have HC := Lib.hid hC
  have HG := Lib.hid hG
  have HP := Lib.hid (Tryz.strings_CutPrefix s ⟨#[99]⟩ w)
  obtain ⟨d, hd⟩ : ∃ d : ByteArray, (⟨(Lib.trimPrefix s.data.toList (⟨#[99]⟩ : ByteArray).data.toList).toArray⟩ : ByteArray) = d := ⟨_, rfl⟩
  have hds : d.size ≤ 1000000 := by
    rw [← hd]
    show (Lib.trimPrefix _ _).toArray.size ≤ _
    have : s.data.toList.length ≤ 1000000 := by simpa using hl
    simp only [List.size_toArray]
    unfold Lib.trimPrefix
    split <;> simp at this ⊢ <;> omega
  have hdl : d.data.toList = Lib.trimPrefix s.data.toList [99] := by rw [← hd]
  rw [hd] at HP
  have HA := Lib.hid (atoi_c d w hds hG)
  clear hC hG hd
  cases hp : Lib.hasPrefix s.data.toList [99]
  · have hR := cnum_pre hp
    rw [show Lib.hasPrefix s.data.toList (⟨#[99]⟩ : ByteArray).data.toList = false from hp] at HP
    have hC : C (.panicked (boom 70)) := by rw [← HC.out, hR]; rfl
    have HCo := Lib.hid hC
    clear hR hp hC HC hdl hl hds
    go_enter Tryz.func187, Tryz.ntmps187
    go_wp2_with fail
    refine HP.out.mono ?_
    rintro e w1 ⟨rfl, rfl⟩
    clear HP
    go_wp2_with fail
    refine HA.out.mono ?_
    rintro e w2 ⟨hat, hb⟩
    have Hb := Lib.hid hb
    obtain ⟨n, er, rfl⟩ : ∃ n er, e = .returned (.tuple #[.int .i64 n, er]) := by
      unfold AtS at hat
      split at hat
      · exact ⟨_, _, hat⟩
      · obtain ⟨n, p, h⟩ := hat; exact ⟨_, _, h⟩
    clear hat hb HA HG
    go_wp2_with fail
    refine (req_no _).mono ?_
    rintro e w3 ⟨rfl, rfl⟩
    exact ⟨rfl, HCo.out, Hb.out⟩
  · have hs := cnum_dig hp
    rw [← hdl] at hs
    rw [show Lib.hasPrefix s.data.toList (⟨#[99]⟩ : ByteArray).data.toList = true from hp] at HP
    clear hp hl hds hdl
    cases ha : Lib.atoiAll d.data.toList with
    | ok v =>
      rw [ha] at HA
      have hR := cnum_ok ha
      rw [← hs] at hR
      have h6 := Lib.hid (atoi_64 ha)
      cases hv : colB v
      · rw [hv, if_neg (by simp)] at hR
        have hC : C (.panicked (boom 70)) := by rw [← HC.out, hR]; rfl
        have HCo := Lib.hid hC
        have HK := Lib.hid (fun u => isCol_c v u)
        rw [hv] at HK
        clear hR ha hC HC hs hv h6 HG
        go_enter Tryz.func187, Tryz.ntmps187
        go_wp2_with fail
        refine HP.out.mono ?_
        rintro e w1 ⟨rfl, rfl⟩
        clear HP
        go_wp2_with fail
        refine HA.out.mono ?_
        rintro e w2 ⟨rfl, hb⟩
        have Hb := Lib.hid hb
        clear hb HA
        go_wp2_with fail
        refine (HK.out _).mono ?_
        rintro e w3 ⟨rfl, rfl⟩
        go_wp2_with fail
        refine (req_no _).mono ?_
        rintro e w4 ⟨rfl, rfl⟩
        exact ⟨rfl, HCo.out, Hb.out⟩
      · have HK := Lib.hid (fun u => isCol_c v u)
        rw [hv] at HK
        have hv2 := hv
        unfold colB at hv2
        simp at hv2
        by_cases hi : Lib.itoa v = d.data.toList
        · rw [if_pos ⟨hv, hi⟩] at hR
          have hC : C (.returned (.int .i64 v)) := by
            rw [← HC.out, hR]
            show _ = Ending.returned (.int .i64 ((v.toNat : Nat) : Int))
            rw [show ((v.toNat : Nat) : Int) = v by omega]
          have HCo := Lib.hid hC
          have hu : (⟨(Lib.itoa v).toArray⟩ : ByteArray) = d := by rw [hi]
          have Hu := Lib.hid hu
          clear hR ha hC HC hs hv hv2 hi hu
          go_enter Tryz.func187, Tryz.ntmps187
          go_wp2_with fail
          refine HP.out.mono ?_
          rintro e w1 ⟨rfl, rfl⟩
          clear HP
          go_wp2_with fail
          refine HA.out.mono ?_
          rintro e w2 ⟨rfl, hb⟩
          have Hb := Lib.hid hb
          have HG2 := Lib.hid (HG.out.after hb)
          clear hb HA HG
          go_wp2_with fail
          refine (HK.out _).mono ?_
          rintro e w3 ⟨rfl, rfl⟩
          go_wp2_with fail
          refine (Tryz.strconv_Itoa v h6.out.1 h6.out.2 _ HG2.out.gl.tab).mono ?_
          rintro e w4 ⟨rfl, k, os, hw⟩
          have Hb4 := Lib.hid (Hb.out.trans ((show Below w3.heap.size w3 w4 by rw [hw]; exact below_grow _ k os).mono Hb.out.size))
          rw [Hu.out]
          clear hw Hb HG2 Hu HK h6
          go_wp2_with fail
          refine (req_yes _).mono ?_
          rintro e w5 ⟨rfl, rfl⟩
          go_wp2
          go_ret
          exact ⟨HCo.out, Hb4.out⟩
        · rw [if_neg (fun h => hi h.2)] at hR
          have hC : C (.panicked (boom 70)) := by rw [← HC.out, hR]; rfl
          have HCo := Lib.hid hC
          have hu : ((⟨(Lib.itoa v).toArray⟩ : ByteArray).toList == d.toList) = false := by
            rw [ByteArray.toList_eq, ByteArray.toList_eq]
            simpa using hi
          have Hu := Lib.hid hu
          clear hR ha hC HC hs hv hv2 hi hu
          go_enter Tryz.func187, Tryz.ntmps187
          go_wp2_with fail
          refine HP.out.mono ?_
          rintro e w1 ⟨rfl, rfl⟩
          clear HP
          go_wp2_with fail
          refine HA.out.mono ?_
          rintro e w2 ⟨rfl, hb⟩
          have Hb := Lib.hid hb
          have HG2 := Lib.hid (HG.out.after hb)
          clear hb HA HG
          go_wp2_with fail
          refine (HK.out _).mono ?_
          rintro e w3 ⟨rfl, rfl⟩
          go_wp2_with fail
          refine (Tryz.strconv_Itoa v h6.out.1 h6.out.2 _ HG2.out.gl.tab).mono ?_
          rintro e w4 ⟨rfl, k, os, hw⟩
          have Hb4 := Lib.hid (Hb.out.trans ((show Below w3.heap.size w3 w4 by rw [hw]; exact below_grow _ k os).mono Hb.out.size))
          have hu := Hu.out
          generalize (⟨(Lib.itoa v).toArray⟩ : ByteArray) = u at hu ⊢
          clear hw Hb HG2 Hu HK h6
          go_wp2_with fail
          refine (req_no _).mono ?_
          rintro e w5 ⟨rfl, rfl⟩
          exact ⟨rfl, HCo.out, Hb4.out⟩
    | _ =>
      rw [ha] at HA
      have hR := cnum_bad (d := d.data.toList) (fun v h => by rw [ha] at h; cases h)
      rw [← hs] at hR
      have hC : C (.panicked (boom 70)) := by rw [← HC.out, hR]; rfl
      have HCo := Lib.hid hC
      clear hR ha hC HC hs HG
      go_enter Tryz.func187, Tryz.ntmps187
      go_wp2_with fail
      refine HP.out.mono ?_
      rintro e w1 ⟨rfl, rfl⟩
      clear HP
      go_wp2_with fail
      refine HA.out.mono ?_
      rintro e w2 ⟨⟨n, p, rfl⟩, hb⟩
      have Hb := Lib.hid hb
      clear hb HA
      go_wp2_with fail
      refine (req_no _).mono ?_
      rintro e w4 ⟨rfl, rfl⟩
      exact ⟨rfl, HCo.out, Hb.out⟩
end Go.Proofs.YtjgpmnffagdhlaaGreatDoor
namespace Go.Proofs.YtjgpmnffagdhlaaGreatDoor
open Go Go.RowKit
set_option maxRecDepth 100000
theorem run_mapNew0 {P : Program} {mty kt et : TypeId} (w : World) (es : Array MapEntry) (r clk : Nat) (s : ByteArray) (x : Value) (hm : P.underlying mty = some (.map kt et)) (hk : P.underlying kt = some .string) (hb : w.heap[r]? = some (.map es clk)) (h : Instr.findNow .string (.string s) es.toList 0 = some none) :
    (Instr.mapUpdate mty (.map (some r)) (.string s) x).run P w = .ok () { w with heap := w.heap.setIfInBounds r (.map (es.push ⟨.string s, x, clk⟩) (clk + 1)) } := by
  have hc : (Instr.checkKey false 10000 kt (.string s)).run P w = .ok () w := MapKept.run_checkKey (k := .string s) hk (by simp [MapKept.IsKey]) false 9999
  simp [Instr.mapUpdate, run_underlying hm, MapKept.run_getObj_map hb, hc, MapKept.run_findKey hk h, MapKept.run_setObj_map _ hb, Result.andThen]
theorem run_mapNew (w : World) (es : Array MapEntry) (clk : Nat) (s : ByteArray) (x : Value) (h : Instr.findNow .string (.string s) es.toList 0 = some none) :
    (Instr.mapUpdate 109 (.map (some w.heap.size)) (.string s) x).run Tryz.prog (w.alloc (.map es clk)) = .ok () (w.alloc (.map (es.push ⟨.string s, x, clk⟩) (clk + 1))) := by
  have hb : (w.alloc (.map es clk)).heap[w.heap.size]? = some (.map es clk) := by
    show (w.heap.push _)[w.heap.size]? = _
    simp
  rw [run_mapNew0 (w.alloc (.map es clk)) es w.heap.size clk s x Tryz.underlying109 Tryz.underlying9 hb h]
  congr 1
  show ({ w with heap := (w.heap.push _).setIfInBounds w.heap.size _ } : World) = { w with heap := w.heap.push _ }
  congr 1
  apply Array.ext'
  simp
theorem nextW (w : World) (k : Nat) (s : List UInt8) (x : Value) (es : Array MapEntry) (he : stO k = .map es k) (he' : stO (k + 1) = .map (es.push ⟨.string (ba s), x, k⟩) (k + 1)) (h : Instr.findNow .string (.string (ba s)) es.toList 0 = some none) :
    (Instr.mapUpdate 109 (.map (some w.heap.size)) (.string (ba s)) x).run Tryz.prog (w.alloc (stO k)) = .ok () (w.alloc (stO (k + 1))) := by
  rw [he, he']
  exact run_mapNew w es k (ba s) x h
set_option maxHeartbeats 4000000 in
theorem steps_c (w : World) : Calls Tryz.prog 64 #[] w fun e w' => e = .returned (.map (some w.heap.size)) ∧ w' = w.alloc (stO 11) := by
  obtain ⟨O, hO⟩ : ∃ O : Nat → Obj, stO = O := ⟨_, rfl⟩
  have h0 : ∀ u : World, (Instr.makeMap 109 none).run Tryz.prog u = .ok (.map (some u.heap.size)) (u.alloc (O 0)) := fun u => by rw [← hO]; rfl
  have n0 := nextW w 0 w_true (Nd.w ⟨1, 0, tt⟩) _ rfl rfl rfl
  have n1 := nextW w 1 w_false (Nd.w ⟨1, 0, ff⟩) _ rfl rfl rfl
  have n2 := nextW w 2 w_null (Nd.w ⟨1, 0, nl⟩) _ rfl rfl rfl
  have n3 := nextW w 3 s_pl (Nd.w ⟨2, 0, nl⟩) _ rfl rfl rfl
  have n4 := nextW w 4 s_mi (Nd.w ⟨3, 0, nl⟩) _ rfl rfl rfl
  have n5 := nextW w 5 s_st (Nd.w ⟨4, 0, nl⟩) _ rfl rfl rfl
  have n6 := nextW w 6 s_eq (Nd.w ⟨5, 0, nl⟩) _ rfl rfl rfl
  have n7 := nextW w 7 s_lt (Nd.w ⟨6, 0, nl⟩) _ rfl rfl rfl
  have n8 := nextW w 8 w_and (Nd.w ⟨7, 0, nl⟩) _ rfl rfl rfl
  have n9 := nextW w 9 w_or (Nd.w ⟨8, 0, nl⟩) _ rfl rfl rfl
  have n10 := nextW w 10 w_not (Nd.w ⟨9, 0, nl⟩) _ rfl rfl rfl
  rw [hO] at n0 n1 n2 n3 n4 n5 n6 n7 n8 n9 n10 ⊢
  clear hO
  simp only [Nd.w, ba, w_true, w_false, w_null, s_pl, s_mi, s_st, s_eq, s_lt, w_and, w_or, w_not, tt, ff, nl] at n0 n1 n2 n3 n4 n5 n6 n7 n8 n9 n10
  go_enter Tryz.func64, Tryz.ntmps64
  go_wp2
  go_ret
  exact ⟨rfl, rfl⟩
end Go.Proofs.YtjgpmnffagdhlaaGreatDoor
namespace Go.Proofs.YtjgpmnffagdhlaaGreatDoor
open Go Go.RowKit
set_option maxRecDepth 100000
def stFL : List (List UInt8 × Nd) → ByteArray → Option Nd
  | [], _ => none
  | p :: r, s => if s == ba p.1 then some p.2 else stFL r s
def stF (s : ByteArray) : Option Nd := stFL stW s
theorem find_ents (s : ByteArray) : ∀ (ws : List (List UInt8 × Nd)) (i j : Nat), ∃ k, Instr.findNow .string (.string s) (entsF i ws) j = some ((stFL ws s).map fun x => (k, x.w))
  | [], _, j => ⟨j, rfl⟩
  | p :: r, i, j => by
    cases h : (s == ba p.1)
    · obtain ⟨k, hk⟩ := find_ents s r (i + 1) (j + 1)
      refine ⟨k, ?_⟩
      rw [entsF, stFL, h, Instr.findNow]
      simp only [Instr.sameNow, h]
      exact hk
    · refine ⟨j, ?_⟩
      rw [entsF, stFL, h, Instr.findNow]
      simp only [Instr.sameNow, h]
      rfl
theorem run_look0 {P : Program} {mty kt et : TypeId} (w : World) (es : Array MapEntry) (r clk : Nat) (s : ByteArray) (hm : P.underlying mty = some (.map kt et)) (hk : P.underlying kt = some .string) (hb : w.heap[r]? = some (.map es clk)) (o : Option (Nat × Value)) (z : Value) (hz : (zeroValue et).run P w = .ok z w) (h : Instr.findNow .string (.string s) es.toList 0 = some o) :
    (Instr.lookup mty (.map (some r)) (.string s) true).run P w = .ok (.tuple #[(o.map (·.2)).getD z, .bool o.isSome]) w := by
  have hc : ∀ em, (Instr.checkKey em 10000 kt (.string s)).run P w = .ok () w := fun em => MapKept.run_checkKey (k := .string s) hk (by simp [MapKept.IsKey]) em 9999
  cases o with
  | none => simp [Instr.lookup, run_underlying hm, MapKept.run_getObj_map hb, hc, MapKept.run_findKey hk h, hz, Result.andThen]
  | some p => simp [Instr.lookup, run_underlying hm, MapKept.run_getObj_map hb, hc, MapKept.run_findKey hk h, Result.andThen]
def nd0 : Nd := ⟨0, 0, nl⟩
theorem run_look (w : World) (m : Nat) (s : ByteArray) (hb : w.heap[m]? = some (stO 11)) :
    (Instr.lookup 109 (.map (some m)) (.string s) true).run Tryz.prog w = .ok (.tuple #[((stF s).getD nd0).w, .bool (stF s).isSome]) w := by
  obtain ⟨k, hk⟩ := find_ents s stW 0 0
  have := run_look0 w (entsF 0 (stW.take 11)).toArray m 11 s Tryz.underlying109 Tryz.underlying9 hb _ nd0.w (by kernel_rfl) hk
  rw [this]
  unfold stF
  cases stFL stW s <;> rfl
theorem sign_cnum {l : List UInt8} (h : signB l = true) : cnum l = none := by
  cases e : cnum l with
  | none => rfl
  | some n =>
    exfalso
    have := (cnum_lt e).2
    subst this
    unfold cWord at h
    unfold signB at h
    revert h
    cases Lib.itoa (n : Int) with
    | nil => decide
    | cons a r => simp
/-- A step of one token. -/
def stepN (o : Option Nd) (t : Tk) (r : List Tk) : Option (Nd × List Tk) := match o with
  | some x => some (x, r)
  | none => (cnum t.t.data.toList).map fun (n : Nat) => ((⟨0, (n : Int), nl⟩ : Nd), r)
def stepM (t : Tk) (r : List Tk) : Option (Nd × List Tk) := if t.k = 1 then some (⟨1, 0, t.v⟩, r) else stepN (stF t.t) t r
/-- A step, as the program reads it. -/
def stepL (l : List Tk) : Option (Nd × List Tk) :=
  if seesB [w_null, s_qm] l then some (⟨10, 0, nl⟩, l.drop 2) else match l with
    | [] => none
    | t :: r => stepM t r
theorem stF_l (s : ByteArray) : stF s = if s.data.toList == w_true then some ⟨1, 0, tt⟩ else if s.data.toList == w_false then some ⟨1, 0, ff⟩ else if s.data.toList == w_null then some ⟨1, 0, nl⟩ else if s.data.toList == s_pl then some ⟨2, 0, nl⟩ else if s.data.toList == s_mi then some ⟨3, 0, nl⟩ else if s.data.toList == s_st then some ⟨4, 0, nl⟩ else if s.data.toList == s_eq then some ⟨5, 0, nl⟩ else if s.data.toList == s_lt then some ⟨6, 0, nl⟩ else if s.data.toList == w_and then some ⟨7, 0, nl⟩ else if s.data.toList == w_or then some ⟨8, 0, nl⟩ else if s.data.toList == w_not then some ⟨9, 0, nl⟩ else none := by
  have e : ∀ l : List UInt8, (s == ba l) = (s.data.toList == l) := fun l => by
    rw [ba_beq, Bool.eq_iff_iff, decide_eq_true_eq, MapKept.bytes_beq]; exact eq_comm
  simp only [stF, stW, stFL, e]
theorem stepL_eq {l : List Tk} (hm : ∀ t ∈ l, mayT t = true) : stepL l = stepP l := by
  cases l with
  | nil => rfl
  | cons t r =>
    have ht := hm t (by simp)
    have hr : ∀ t ∈ r, mayT t = true := fun x hx => hm x (List.mem_cons_of_mem _ hx)
    have hq := sees_take hr (s := s_qm) (by decide)
    unfold stepL
    simp only [stepM, stepN]
    rw [seesB]
    by_cases hk : t.k = 1
    · have hw : ∀ s, isW s t = false := fun s => by unfold isW; rw [hk]; rfl
      have h1 : (t.t.data.toList == w_null) = false := by rw [← may_isW ht (by decide)]; exact hw _
      have ho : ∀ ws i, oneF ws i t = none := fun ws => by
        induction ws with
        | nil => exact fun _ => rfl
        | cons s ws ih => exact fun i => by rw [oneF, hw, if_neg (by decide)]; exact ih _
      rw [h1, Bool.false_and]
      simp only [Bool.false_eq_true, if_false, if_pos hk]
      rw [stepP, hw, hw, hw, ho]
      simp [hk]
    · have hw : ∀ s, isW s t = (t.t.data.toList == s) := fun s => by
        unfold isW
        have : (t.k != 1) = true := by simpa using hk
        rw [this, Bool.true_and]
      have hs : t.k ≠ 0 → cnum t.t.data.toList = none := fun h0 => by
        unfold mayT at ht
        by_cases h2 : t.k = 2
        · simp [h2] at ht
          exact sign_cnum ht.1
        · simp [hk, h0, h2] at ht
      rw [← hq.1, stepP]
      simp only [hw, oneF, opWs, stF_l]
      have e1 : (t.k == 1) = false := by simpa using hk
      rw [e1]
      obtain ⟨l, hl⟩ : ∃ l, t.t.data.toList = l := ⟨_, rfl⟩
      rw [hl] at hs ⊢
      by_cases a1 : l = w_null
      · subst a1
        cases h : (takeP s_qm r).1
        · simp [hk]; rfl
        · rw [hq.1] at h
          have h2 := hq.2
          rw [h] at h2
          simp at h2
          simp [h2]
      have b1 : (l == w_null) = false := by simpa using a1
      by_cases a2 : l = w_true
      · subst a2; simp [hk]; rfl
      have b2 : (l == w_true) = false := by simpa using a2
      by_cases a3 : l = w_false
      · subst a3; simp [hk]; rfl
      have b3 : (l == w_false) = false := by simpa using a3
      rw [b1, b2, b3]
      simp only [Bool.false_and, Bool.false_eq_true, if_false, if_neg hk]
      cases g0 : (l == s_pl)
      case true => rfl
      cases g1 : (l == s_mi)
      case true => rfl
      cases g2 : (l == s_st)
      case true => rfl
      cases g3 : (l == s_eq)
      case true => rfl
      cases g4 : (l == s_lt)
      case true => rfl
      cases g5 : (l == w_and)
      case true => rfl
      cases g6 : (l == w_or)
      case true => rfl
      cases g7 : (l == w_not)
      case true => rfl
      simp only [Bool.false_eq_true, if_false]
      by_cases c0 : t.k = 0
      · have e0 : (t.k == 0) = true := by simpa using c0
        rw [e0]; rfl
      · rw [hs c0]
        have e0 : (t.k == 0) = false := by simpa using c0
        rw [e0]; rfl
theorem stepL_miss {t : Tk} {r : List Tk} (h : seesB [w_null, s_qm] (t :: r) = false) : stepL (t :: r) = stepM t r := by unfold stepL; rw [h]; rfl
theorem stepL_hit {l : List Tk} (h : seesB [w_null, s_qm] l = true) : stepL l = some (⟨10, 0, nl⟩, l.drop 2) := by unfold stepL; rw [h]; rfl
end Go.Proofs.YtjgpmnffagdhlaaGreatDoor
namespace Go.Proofs.YtjgpmnffagdhlaaGreatDoor
open Go Go.RowKit
set_option maxRecDepth 100000
/-- A function whose one result is a step, at its return. -/
theorem ret_nd {fn : Func} {R : Ending → World → Prop} {F : Act} {w : World} {t : Tmp} {b : Nat} {a : Nd} (hres : fn.results = #[.cell t 66]) (ht : Reg.slot F t = .pointer (some ⟨b, 0, none⟩)) (hb : Bk w b (rdN a).toArray 66) (hd : F.defers = [])
    (hR : R (.returned a.w) w) : bodyPost Tryz.prog fn R .ret F w := by
  have h0 : w.cell? ⟨b, 0, none⟩ = some (.int .i64 a.op) := hb.cell 0
  have h1 : w.cell? ⟨b, 1, none⟩ = some (.int .i64 a.n) := hb.cell 1
  have h2 : w.cell? ⟨b, 2, none⟩ = some (.int .i64 a.v.k) := hb.cell 2
  have h3 : w.cell? ⟨b, 3, none⟩ = some (.int .i64 a.v.n) := hb.cell 3
  have h4 : w.cell? ⟨b, 4, none⟩ = some (.string a.v.s) := hb.cell 4
  refine bodyPost_ret (v := a.w) ?_ hd hR
  have ht' : F.tmps[t]?.getD undef = .pointer (some ⟨b, 0, none⟩) := by simpa [Reg.slot] using ht
  simp [results, hres, ht', go_sem, h0, h1, h2, h3, h4]
theorem may_txt {t : Tk} (h : mayT t = true) : t.t.size ≤ 1000 := by
  have hl : t.t.size = t.t.data.toList.length := Array.length_toList.symm
  rw [hl]
  unfold mayT at h
  by_cases h0 : t.k = 0
  · simp [h0, wordB] at h
    have h1 := h.1
    revert h1
    cases t.t.data.toList with
    | nil => simp
    | cons c r =>
      intro h1
      simp at h1
      have := h1.1
      simp only [List.length_cons]; omega
  · by_cases h1 : t.k = 1
    · simp [h1] at h
      have := h.1
      rw [ByteArray.toList_eq] at this
      rw [this]; simp
    · by_cases h2 : t.k = 2
      · simp [h2] at h
        have h3 := h.1
        unfold signB at h3
        revert h3
        cases t.t.data.toList with
        | nil => simp
        | cons a r => cases r with
          | nil => simp
          | cons b r => simp
      · simp [h0, h1, h2] at h
/-- Words in a block that is made for them. -/
theorem slW2 (w : World) (s u : List UInt8) : SlG (w.alloc (.cells #[.string (ba s), .string (ba u)] 9)) (some ⟨w.heap.size, 0, none⟩) 1 rdS [s, u] := SlG.new (rd := rdS) (S := 1) (fun _ => rfl) [s, u] rfl
/-- What a step tells. -/
def StepS (b : Nat) (w : World) (o : Option (Nd × List Tk)) (e : Ending) (w' : World) : Prop := match o with
  | none => e = .panicked (boom 70) ∧ Apb b w w'
  | some q => e = .returned q.1.w ∧ Rq w' b q.2 ∧ Apb b w w'
set_option maxHeartbeats 4000000 in
theorem step_cR (b : Nat) (l : List Tk) (w : World) (hR : Rq w b l) (hG : GL w) (hGb : GLt b) :
    Calls Tryz.prog 177 #[.pointer (some ⟨b, 0, none⟩)] w fun e w' => StepS b w (stepP l) e w' := by
  rw [← stepL_eq hR.may]
  have hbs := hR.lt
  have hN : (w.alloc (.cells (rdN nd0).toArray 66)).heap.size = w.heap.size + 1 := by simp
  have HH := Lib.hid (has_c b l [w_null, s_qm] (some ⟨w.heap.size + 1, 0, none⟩) 2 2 ((w.alloc (.cells (rdN nd0).toArray 66)).alloc (.cells #[.string (ba w_null), .string (ba s_qm)] 9)) ((hR.alloc _).alloc _) (by have := slW2 (w.alloc (.cells (rdN nd0).toArray 66)) w_null s_qm; rw [hN] at this; exact this) rfl (by decide) (by decide))
  have HB0 := Lib.hid (Bk.new w (rdN nd0).toArray 66)
  have Hmay := Lib.hid hR.may
  have HG := Lib.hid hG
  have Hgb := Lib.hid hGb
  obtain ⟨S, hS⟩ : ∃ S, StepS b w (stepL l) = S := ⟨_, rfl⟩
  rw [hS]
  have HS := Lib.hid hS
  clear hR hG hGb hN hS
  cases hq : seesB [w_null, s_qm] l
  · rw [hq] at HH
    go_enter Tryz.func177, Tryz.ntmps177
    go_wp2_with fail
    refine HH.out.mono ?_
    rintro e w1 ⟨rfl, hr, hb⟩
    rw [if_neg (by decide)] at hr
    have hba : Apb b w w1 := hb.of_alloc.of_alloc
    have HB1 := Lib.hid ((HB0.out.after (below_one _ _) (by simp)).kept hb (by omega))
    have Hr := Lib.hid hr
    have Hb := Lib.hid hba
    clear HH hr hb hba HB0
    cases l with
    | nil =>
      have HT := Lib.hid (rtake_nil b w1 Hr.out)
      have hS : S = StepS b w none := HS.out.symm
      clear HS hq
      go_wp2_with fail
      refine HT.out.mono ?_
      rintro e w2 ⟨rfl, hb2⟩
      exact ⟨rfl, by rw [hS]; exact ⟨rfl, Hb.out.trans hb2⟩⟩
    | cons t r =>
      have HT := Lib.hid (rtake_c b t r w1 Hr.out)
      rw [stepL_miss hq] at HS
      clear hq
      have Hts := Lib.hid (may_txt (Hmay.out t (by simp)))
      clear Hmay
      go_wp2_with fail
      refine HT.out.mono ?_
      rintro e w2 ⟨rfl, hr2, hb2⟩
      have HB2 := Lib.hid (HB1.out.kept hb2 (by omega))
      have Hr2 := Lib.hid hr2
      have Hb2 := Lib.hid (Hb.out.trans hb2)
      clear HT hr2 hb2 Hb Hr HB1
      have n0 : w2.cell? ⟨w.heap.size, 0, none⟩ = some (.int .i64 0) := HB2.out.cell 0
      have n1 : w2.cell? ⟨w.heap.size, 1, none⟩ = some (.int .i64 0) := HB2.out.cell 1
      have n2 : w2.cell? ⟨w.heap.size, 2, none⟩ = some (.int .i64 0) := HB2.out.cell 2
      have n3 : w2.cell? ⟨w.heap.size, 3, none⟩ = some (.int .i64 0) := HB2.out.cell 3
      have n4 : w2.cell? ⟨w.heap.size, 4, none⟩ = some (.string emp) := HB2.out.cell 4
      have z0 := HB2.out.thaw 0
      have z1 := HB2.out.thaw 1
      have z2 := HB2.out.thaw 2
      have z3 := HB2.out.thaw 3
      have z4 := HB2.out.thaw 4
      have hlt := HB2.out.lt
      by_cases hk : t.k = 1
      · have hS : S = StepS b w (some (⟨1, 0, t.v⟩, r)) := by rw [← HS.out]; unfold stepM; rw [if_pos hk]
        have e1 : (t.k == 1) = true := by simpa using hk
        have e2 : decide (t.k = 1) = true := by simpa using hk
        clear HS hk
        have HSS := Lib.hid hS
        clear hS
        go_wp2_with fail
        refine ret_nd (b := w.heap.size) (a := ⟨1, 0, t.v⟩) Tryz.results177 rfl ?_ rfl ?_
        · exact ((HB2.out.put (rdN ⟨1, 0, t.v⟩) rfl).after (below_one _ _) (by rw [putL_size]; exact hlt))
        · rw [HSS.out]
          exact ⟨rfl, (Hr2.out.put (by omega) 0 (rdN ⟨1, 0, t.v⟩)).alloc _, (Hb2.out.put (Nat.le_refl _) 0 (rdN ⟨1, 0, t.v⟩)).alloc _⟩
      · have e1 : (t.k == 1) = false := by simpa using hk
        have e2 : decide (t.k = 1) = false := by simpa using hk
        have hS : S = StepS b w (stepN (stF t.t) t r) := by rw [← HS.out]; unfold stepM; rw [if_neg hk]
        clear HS hk
        obtain ⟨A, n, c, m, hbk, _, _, _, _, hmb, hmo, _⟩ := Hr2.out
        have m1 : w2.cell? ⟨b, 1, none⟩ = some (.map (some m)) := hbk.cell 1
        have hbl := hbk.lt
        have HSS := Lib.hid hS
        have hm1 : (w2.alloc t.obj).heap[m]? = some (stO 11) := (Below.heap_alloc w2 t.obj m (by omega)).trans hmo
        have hl1 := run_look (w2.alloc t.obj).drew m t.t hm1
        have hl2 := run_look ((w2.alloc t.obj).alloc (.cells #[.int .i64 0, .int .i64 0, .int .i64 0, .int .i64 0, .string ⟨#[]⟩] 66)).drew m t.t ((Below.heap_alloc _ _ m (by simp; omega)).trans hm1)
        obtain ⟨x, hx⟩ : ∃ x, (stF t.t).getD nd0 = x := ⟨_, rfl⟩
        obtain ⟨y, hy⟩ : ∃ y, (stF t.t).isSome = y := ⟨_, rfl⟩
        rw [hx, hy] at hl1 hl2
        have Hx := Lib.hid hx
        have Hy := Lib.hid hy
        clear hm1 hx hy
        clear hS hbk hmo
        go_wp2_with fail
        go_region
        all_goals
          cases y
          · have hst : stF t.t = none := by
              have := Hy.out
              cases h : stF t.t with
              | none => rfl
              | some x => rw [h] at this; cases this
            have hS := HSS.out
            rw [hst] at hS
            have HS2 : Hid (S = StepS b w ((cnum t.t.data.toList).map fun (n : Nat) => ((⟨0, (n : Int), nl⟩ : Nd), r))) := Lib.hid hS
            have hBW : Below w2.heap.size w2 ((w2.alloc t.obj).alloc (.cells (rdN x).toArray 66)).drew := by
              have h1 := (below_one w2 t.obj).trans ((below_one (w2.alloc t.obj) (.cells (rdN x).toArray 66)).mono (by simp))
              exact ⟨h1.os, h1.tape, h1.output, h1.size, h1.block⟩
            have HGW := Lib.hid (((HG.out.below (Hb2.out.below hbs) Hgb.out).below (hBW.mono (B' := b) (by omega)) Hgb.out))
            have HBW := Lib.hid hBW
            clear hst hS HSS hl1 hl2 hBW Hx Hy
            go_wp2_with fail
            refine (colOf_c t.t _ (by have := Hts.out; omega) HGW.out).mono ?_
            rintro e w3 ⟨hcs, hb3⟩
            have hb4 := HBW.out.trans (hb3.mono HBW.out.size)
            have hlt3 : w.heap.size < w3.heap.size := Nat.lt_of_lt_of_le hlt hb4.size
            have HB3 := Lib.hid (HB2.out.after hb4 hlt)
            have Hr3 := Lib.hid (Hr2.out.after hb4 hbl)
            have Hb3 := Lib.hid (Hb2.out.then hb4 Hb2.out.size)
            clear hb3 hb4 HGW HBW
            cases hc : cnum t.t.data.toList with
            | none =>
              rw [hc] at hcs HS2
              have hcs : e = .panicked (boom 70) := hcs
              subst hcs
              refine ⟨rfl, ?_⟩
              rw [HS2.out]
              exact ⟨rfl, Hb3.out⟩
            | some q =>
              rw [hc] at hcs HS2
              have hcs : e = .returned (.int .i64 (q : Int)) := hcs
              subst hcs
              have HS3 : Hid (S = StepS b w (some (⟨0, q, nl⟩, r))) := HS2
              have n0 : w3.cell? ⟨w.heap.size, 0, none⟩ = some (.int .i64 0) := HB3.out.cell 0
              have n1 : w3.cell? ⟨w.heap.size, 1, none⟩ = some (.int .i64 0) := HB3.out.cell 1
              have n2 : w3.cell? ⟨w.heap.size, 2, none⟩ = some (.int .i64 0) := HB3.out.cell 2
              have n3 : w3.cell? ⟨w.heap.size, 3, none⟩ = some (.int .i64 0) := HB3.out.cell 3
              have n4 : w3.cell? ⟨w.heap.size, 4, none⟩ = some (.string emp) := HB3.out.cell 4
              have z0 := HB3.out.thaw 0
              have z1 := HB3.out.thaw 1
              have z2 := HB3.out.thaw 2
              have z3 := HB3.out.thaw 3
              have z4 := HB3.out.thaw 4
              clear hc HS2
              go_wp2
              refine ret_nd (b := w.heap.size) (a := ⟨0, q, nl⟩) Tryz.results177 rfl (HB3.out.put (rdN ⟨0, q, nl⟩) rfl) rfl ?_
              rw [HS3.out]
              exact ⟨rfl, Hr3.out.put (by omega) 0 (rdN ⟨0, q, nl⟩), Hb3.out.put (Nat.le_refl _) 0 (rdN ⟨0, q, nl⟩)⟩
          · have hst : stF t.t = some x := by
              have h1 := Hy.out
              have h2 := Hx.out
              cases h : stF t.t with
              | none => rw [h] at h1; cases h1
              | some x' => rw [h] at h2; exact congrArg some h2
            have hS := HSS.out
            rw [hst] at hS
            have HS2 : Hid (S = StepS b w (some (x, r))) := Lib.hid hS
            clear hst hS HSS hl1 hl2 Hx Hy
            go_wp2
            refine ret_nd (b := w.heap.size) (a := x) Tryz.results177 rfl ?_ rfl ?_
            · exact (((HB2.out.put (rdN x) rfl).after (below_one _ _) (by rw [putL_size]; exact hlt)).after (below_one _ _) (by simp [putL_size]; omega)).drew
            · rw [HS2.out]
              exact ⟨rfl, (((Hr2.out.put (by omega) 0 (rdN x)).alloc _).alloc _).drew, (((Hb2.out.put (Nat.le_refl _) 0 (rdN x)).alloc _).alloc _).drew⟩
  · rw [hq] at HH
    rw [stepL_hit hq] at HS
    clear hq
    go_enter Tryz.func177, Tryz.ntmps177
    go_wp2_with fail
    refine HH.out.mono ?_
    rintro e w1 ⟨rfl, hr, hb⟩
    have hr : Rq w1 b (l.drop 2) := hr
    have hba : Apb b w w1 := hb.of_alloc.of_alloc
    have HB1 := Lib.hid ((HB0.out.after (below_one _ _) (by simp)).kept hb (by omega))
    have Hr := Lib.hid hr
    have Hb := Lib.hid hba
    have n0 : w1.cell? ⟨w.heap.size, 0, none⟩ = some (.int .i64 0) := HB1.out.cell 0
    have n1 : w1.cell? ⟨w.heap.size, 1, none⟩ = some (.int .i64 0) := HB1.out.cell 1
    have n2 : w1.cell? ⟨w.heap.size, 2, none⟩ = some (.int .i64 0) := HB1.out.cell 2
    have n3 : w1.cell? ⟨w.heap.size, 3, none⟩ = some (.int .i64 0) := HB1.out.cell 3
    have n4 : w1.cell? ⟨w.heap.size, 4, none⟩ = some (.string emp) := HB1.out.cell 4
    have z0 := HB1.out.thaw 0
    have z1 := HB1.out.thaw 1
    have z2 := HB1.out.thaw 2
    have z3 := HB1.out.thaw 3
    have z4 := HB1.out.thaw 4
    clear HH hr hb hba HB0
    go_wp2
    refine ret_nd (b := w.heap.size) (a := ⟨10, 0, nl⟩) Tryz.results177 rfl (HB1.out.put (rdN ⟨10, 0, nl⟩) rfl) rfl ?_
    rw [← HS.out]
    exact ⟨rfl, Hr.out.put (by omega) 0 (rdN ⟨10, 0, nl⟩), Hb.out.put (Nat.le_refl _) 0 (rdN ⟨10, 0, nl⟩)⟩
end Go.Proofs.YtjgpmnffagdhlaaGreatDoor
namespace Go.Proofs.YtjgpmnffagdhlaaGreatDoor
open Go
set_option maxRecDepth 100000
theorem name_len {l r : List Tk} {a : ByteArray} (h : nameP l = some (a, r)) : r.length < l.length := by
  cases l with
  | nil => cases h
  | cons t q =>
    rw [nameP] at h
    split at h
    · simp at h; rw [← h.2]; simp
    · cases h
theorem col_len {l r : List Tk} {a : Int} (h : colP l = some (a, r)) : r.length < l.length := by
  cases l with
  | nil => cases h
  | cons t q =>
    rw [colP] at h
    split at h
    · simp at h; rw [← h.2]; simp
    · cases h
theorem need_len {s : List UInt8} {l r : List Tk} (h : needP s l = some r) : r.length < l.length := by
  cases l with
  | nil => cases h
  | cons t q =>
    rw [needP] at h
    split at h
    · simp at h; rw [← h]; simp
    · cases h
theorem take_len (s : List UInt8) (l : List Tk) : (takeP s l).2.length ≤ l.length ∧ ((takeP s l).1 = true → (takeP s l).2.length < l.length) := by
  cases l with
  | nil => exact ⟨Nat.le_refl _, fun h => by cases h⟩
  | cons t q =>
    rw [takeP]
    split
    · simp
    · exact ⟨Nat.le_refl _, fun h => by cases h⟩
theorem one_len {ws : List (List UInt8)} {l r : List Tk} {a : Int} (h : oneP ws l = some (a, r)) : r.length < l.length := by
  cases l with
  | nil => cases h
  | cons t q =>
    rw [oneP] at h
    cases e : oneF ws 0 t with
    | none => rw [e] at h; cases h
    | some i => rw [e] at h; simp at h; rw [← h.2]; simp
theorem step_len {l r : List Tk} {x : Nd} (h : stepP l = some (x, r)) : r.length < l.length := by
  cases l with
  | nil => cases h
  | cons t q =>
    have ht := (take_len s_qm q).1
    rw [stepP] at h
    split at h
    · split at h
      · simp at h; rw [← h.2]; simp; omega
      · simp at h; rw [← h.2]; simp
    split at h
    · simp at h; rw [← h.2]; simp
    split at h
    · simp at h; rw [← h.2]; simp
    split at h
    · simp at h; rw [← h.2]; simp
    split at h
    · simp at h; rw [← h.2]; simp
    split at h
    · cases e : cnum t.t.data.toList with
      | none => rw [e] at h; cases h
      | some n => rw [e] at h; simp at h; rw [← h.2]; simp
    · cases h
theorem exprF_fuel : ∀ (n m : Nat) (l : List Tk), l.length < n → l.length < m → exprF n l = exprF m l
  | 0, _, _, h, _ => by omega
  | _, 0, _, _, h => by omega
  | n + 1, m + 1, [], _, _ => rfl
  | n + 1, m + 1, t :: r, hn, hm => by
    rw [exprF, exprF]
    split
    · rfl
    · cases e : stepP (t :: r) with
      | none => rfl
      | some p =>
        have := step_len (x := p.1) (r := p.2) e
        simp only [Option.bind_some]
        rw [exprF_fuel n m p.2 (by simp at this hn; omega) (by simp at this hm; omega)]
/-- Steps up to the sign that ends them. -/
def exprG (l : List Tk) : Option (List Nd × List Tk) := exprF (l.length + 1) l
theorem exprG_eq (l : List Tk) : exprG l = if (takeP s_rb l).1 then some ([], (takeP s_rb l).2) else (stepP l).bind fun p => (exprG p.2).map fun q => (p.1 :: q.1, q.2) := by
  cases l with
  | nil => rfl
  | cons t r =>
    unfold exprG
    rw [exprF, takeP]
    cases isW s_rb t
    · simp only [Bool.false_eq_true, if_false]
      cases e : stepP (t :: r) with
      | none => rfl
      | some p =>
        have := step_len (x := p.1) (r := p.2) e
        simp only [Option.bind_some]
        rw [exprF_fuel _ (p.2.length + 1) p.2 this (by omega)]
    · rfl
theorem exprG_len : ∀ (n : Nat) (l r : List Tk) (e : List Nd), l.length ≤ n → exprG l = some (e, r) → r.length < l.length ∧ e.length + r.length < l.length
  | 0, [], _, _, _, h => by rw [exprG_eq] at h; cases h
  | 0, _ :: _, _, _, hn, _ => by simp at hn
  | n + 1, l, r, e, hn, h => by
    rw [exprG_eq] at h
    have ht := take_len s_rb l
    cases hq : (takeP s_rb l).1
    · rw [hq] at h
      simp only [Bool.false_eq_true, if_false] at h
      cases hs : stepP l with
      | none => rw [hs] at h; cases h
      | some p =>
        rw [hs] at h
        simp only [Option.bind_some] at h
        have h1 := step_len (x := p.1) (r := p.2) hs
        cases hg : exprG p.2 with
        | none => rw [hg] at h; cases h
        | some q =>
          rw [hg] at h
          simp at h
          have := exprG_len n p.2 q.2 q.1 (by omega) hg
          rw [← h.1, ← h.2]
          simp; omega
    · rw [hq] at h
      simp at h
      have := ht.2 hq
      rw [h.1, ← h.2]
      simp; omega
theorem exprP_eq (l : List Tk) : exprP l = (needP s_lb l).bind fun r => (exprG r).bind fun p => if p.1.length ≤ 100 then some p else none := rfl
theorem expr_len {l r : List Tk} {e : List Nd} (h : exprP l = some (e, r)) : r.length < l.length := by
  rw [exprP_eq] at h
  cases hn : needP s_lb l with
  | none => rw [hn] at h; cases h
  | some q =>
    rw [hn] at h
    simp only [Option.bind_some] at h
    have h1 := need_len hn
    cases hg : exprG q with
    | none => rw [hg] at h; cases h
    | some p =>
      rw [hg] at h
      simp only [Option.bind_some] at h
      split at h
      · simp at h
        have := exprG_len _ q p.2 p.1 (Nat.le_refl _) hg
        rw [h] at this
        simp at this
        omega
      · cases h
/-- What may stand behind one. -/
def tailG {α : Type} (p : List Tk → Option (α × List Tk)) (l : List Tk) : Option (List α × List Tk) := if (takeP s_cm l).1 then sepP p (takeP s_cm l).2 else some ([], l)
theorem sepF_fuel {α : Type} {p : List Tk → Option (α × List Tk)} (hp : ∀ l a, p l = some a → a.2.length ≤ l.length) : ∀ (n m : Nat) (l : List Tk), l.length < n → l.length < m → sepF p n l = sepF p m l
  | 0, _, _, h, _ => by omega
  | _, 0, _, _, h => by omega
  | n + 1, m + 1, l, hn, hm => by
    rw [sepF, sepF]
    cases e : p l with
    | none => rfl
    | some a =>
      have h1 := hp l a e
      have h2 := take_len s_cm a.2
      simp only [Option.bind_some]
      cases hq : (takeP s_cm a.2).1
      · rfl
      · have h3 := h2.2 hq
        simp only [if_true]
        rw [sepF_fuel hp n m _ (by omega) (by omega)]
theorem sepP_eq {α : Type} {p : List Tk → Option (α × List Tk)} (hp : ∀ l a, p l = some a → a.2.length ≤ l.length) (l : List Tk) : sepP p l = (p l).bind fun a => (tailG p a.2).map fun q => (a.1 :: q.1, q.2) := by
  unfold sepP
  rw [sepF]
  cases e : p l with
  | none => rfl
  | some a =>
    have h1 := hp l a e
    have h2 := take_len s_cm a.2
    simp only [Option.bind_some]
    unfold tailG
    cases hq : (takeP s_cm a.2).1
    · rfl
    · have h3 := h2.2 hq
      simp only [if_true]
      unfold sepP
      rw [sepF_fuel hp _ ((takeP s_cm a.2).2.length + 1) _ (by omega) (by omega)]
/-- Checks, as many as there are. -/
def checksG (l : List Tk) : Option (List (List Nd) × List Tk) := checksF (l.length + 1) l
theorem checksF_fuel : ∀ (n m : Nat) (l : List Tk), l.length < n → l.length < m → checksF n l = checksF m l
  | 0, _, _, h, _ => by omega
  | _, 0, _, _, h => by omega
  | n + 1, m + 1, l, hn, hm => by
    rw [checksF, checksF]
    have h1 := take_len w_check l
    cases hq : (takeP w_check l).1
    · rfl
    · simp only [if_true]
      have h2 := h1.2 hq
      cases e : exprP (takeP w_check l).2 with
      | none => rfl
      | some p =>
        have h3 := expr_len (e := p.1) (r := p.2) e
        simp only [Option.bind_some]
        rw [checksF_fuel n m p.2 (by omega) (by omega)]
theorem checksG_eq (l : List Tk) : checksG l = if (takeP w_check l).1 then (exprP (takeP w_check l).2).bind fun e => (checksG e.2).map fun q => (e.1 :: q.1, q.2) else some ([], l) := by
  unfold checksG
  rw [checksF]
  have h1 := take_len w_check l
  cases hq : (takeP w_check l).1
  · rfl
  · simp only [if_true]
    have h2 := h1.2 hq
    cases e : exprP (takeP w_check l).2 with
    | none => rfl
    | some p =>
      have h3 := expr_len (e := p.1) (r := p.2) e
      simp only [Option.bind_some]
      rw [checksF_fuel _ (p.2.length + 1) p.2 (by omega) (by omega)]
theorem column_len {l : List Tk} {a : Cl × List Tk} (h : columnP l = some a) : a.2.length < l.length := by
  unfold columnP at h
  cases e1 : nameP l with
  | none => rw [e1] at h; cases h
  | some x =>
    rw [e1] at h
    simp only [Option.bind_some] at h
    have h1 := name_len (a := x.1) (r := x.2) e1
    cases e2 : oneP [w_bool, w_int, w_text] x.2 with
    | none => rw [e2] at h; cases h
    | some k =>
      rw [e2] at h
      simp only [Option.bind_some] at h
      have h2 := one_len (a := k.1) (r := k.2) e2
      have h3 := (take_len w_null k.2).1
      have h4 := (take_len w_unique (takeP w_null k.2).2).1
      have h5 := (take_len w_ref (takeP w_unique (takeP w_null k.2).2).2).1
      split at h
      · cases e3 : nameP (takeP w_ref (takeP w_unique (takeP w_null k.2).2).2).2 with
        | none => rw [e3] at h; cases h
        | some y =>
          rw [e3] at h
          simp only [Option.bind_some] at h
          have h6 := name_len (a := y.1) (r := y.2) e3
          cases e4 : oneP [w_restrict, w_cascade, w_setnull] y.2 with
          | none => rw [e4] at h; cases h
          | some z =>
            rw [e4] at h
            simp at h
            have h7 := one_len (a := z.1) (r := z.2) e4
            rw [← h]
            simp only; omega
      · simp at h
        rw [← h]
        simp only; omega
theorem agg_len {l : List Tk} {a : Ag × List Tk} (h : aggP l = some a) : a.2.length < l.length := by
  unfold aggP at h
  cases e1 : oneP [w_count, w_sum, w_min, w_max] l with
  | none => rw [e1] at h; cases h
  | some f =>
    rw [e1] at h
    simp only [Option.bind_some] at h
    have h1 := one_len (a := f.1) (r := f.2) e1
    split at h
    · simp at h; rw [← h]; simp only; omega
    · cases e2 : colP f.2 with
      | none => rw [e2] at h; cases h
      | some c =>
        rw [e2] at h
        simp at h
        have h2 := col_len (a := c.1) (r := c.2) e2
        rw [← h]; simp only; omega
end Go.Proofs.YtjgpmnffagdhlaaGreatDoor
namespace Go.Proofs.YtjgpmnffagdhlaaGreatDoor
open Go Go.RowKit
set_option maxRecDepth 100000
theorem nOk : ElOk Tryz.prog 28 66 5 48 nd0.w rdN where
  under := Tryz.underlying28
  info := by kernel_rfl
  zs := rfl
  pos := by decide
  len := fun _ => rfl
  one := fun x u hu => by
    simp [rdN] at hu
    rcases hu with rfl | rfl | rfl | rfl | rfl <;> rfl
theorem take_no {s : List UInt8} {l : List Tk} (h : (takeP s l).1 = false) : (takeP s l).2 = l := by
  cases l with
  | nil => rfl
  | cons t r =>
    rw [takeP] at h ⊢
    cases e : isW s t
    · rfl
    · rw [e] at h; cases h
/-- What an expression tells. -/
def ExprS (b : Nat) (w : World) (o : Option (List Nd × List Tk)) (e : Ending) (w' : World) : Prop := match o with
  | none => e = .panicked (boom 70) ∧ Apb b w w'
  | some q => ∃ v, e = .returned v ∧ OwnG w' w.heap.size 66 5 rdN v q.1 ∧ Rq w' b q.2 ∧ Apb b w w'
set_option maxHeartbeats 4000000 in
theorem expr_cR (b : Nat) (l : List Tk) (w : World) (hR : Rq w b l) (hG : GL w) (hGb : GLt b) :
    Calls Tryz.prog 147 #[.pointer (some ⟨b, 0, none⟩)] w fun e w' => ExprS b w (exprP l) e w' := by
  have hbs := hR.lt
  have HM := Lib.hid (must1_c b w.heap.size l s_lb (by decide) w rfl hR)
  have HG := Lib.hid hG
  have Hgb := Lib.hid hGb
  rw [exprP_eq]
  obtain ⟨S, hS⟩ : ∃ S, ExprS b w ((needP s_lb l).bind fun r => (exprG r).bind fun p => if p.1.length ≤ 100 then some p else none) = S := ⟨_, rfl⟩
  rw [hS]
  have HS := Lib.hid hS
  clear hR hG hGb hS
  go_enter Tryz.func147, Tryz.ntmps147
  go_wp2_with fail
  refine HM.out.mono ?_
  rintro e w1 hm
  cases hn : needP s_lb l with
  | none =>
    rw [hn] at hm HS
    obtain ⟨rfl, hb⟩ := hm
    refine ⟨rfl, ?_⟩
    rw [← HS.out]
    exact ⟨rfl, hb⟩
  | some r0 =>
    rw [hn] at hm HS
    obtain ⟨rfl, hr, hb⟩ := hm
    have Hr := Lib.hid hr
    have Hb := Lib.hid hb
    clear hn hr hb HM
    go_wp2_with fail
    go_loopw [3] (fun v wr => ∃ (acc : List Nd) (rest : List Tk), Hid (OwnG wr w.heap.size 66 5 rdN v acc) ∧ Hid (Rq wr b rest) ∧ Hid (Apb b w wr) ∧ Hid (exprG r0 = (exprG rest).map fun q => (acc ++ q.1, q.2)) ∧ Hid (acc.length + rest.length ≤ 20000)) (fun _ wr => rqLen wr b)
    case atStart => exact ⟨[], r0, OwnG.nil _ _ _, Hr, Hb, Lib.hid (by cases exprG r0 <;> rfl), by have := Hr.out.len; simpa using Lib.hid this⟩
    case round =>
      obtain ⟨acc, rest, ho, hr, hb, he, hlen⟩ := hrel
      have hsz : w.heap.size ≤ wr.heap.size := hb.out.size
      have HH := Lib.hid (has1_c b wr.heap.size rest s_rb (by decide) wr rfl hr.out)
      have hml := hr.out.left
      have HL := Lib.hid hml
      have hap := exprG_eq rest
      clear hml
      cases hq : (takeP s_rb rest).1
      · rw [hq] at HH hap
        rw [take_no hq] at HH
        simp only [Bool.false_eq_true, if_false] at hap
        have Hap := Lib.hid hap
        clear hq hap
        go_wp2_with fail
        refine HH.out.mono ?_
        rintro e w2 ⟨rfl, hr2, hb2⟩
        have HO2 := Lib.hid (ho.out.kept hb2 hbs)
        have HR2 := Lib.hid hr2
        have HB2 := Lib.hid (hb.out.trans hb2)
        have HG2 := Lib.hid (HG.out.below ((hb.out.trans hb2).below hbs) Hgb.out)
        clear hr2 hb2 HH ho hb hr
        go_wp2_with fail
        refine (step_cR b rest w2 HR2.out HG2.out Hgb.out).mono ?_
        rintro e w3 hst
        cases hs : stepP rest with
        | none =>
          rw [hs] at hst Hap
          obtain ⟨rfl, hb3⟩ := hst
          refine ⟨rfl, ?_⟩
          rw [← HS.out]
          simp only [Option.bind_some, he.out, Hap.out, Option.bind_none, Option.map_none]
          exact ⟨rfl, HB2.out.trans hb3⟩
        | some q =>
          rw [hs] at hst Hap
          obtain ⟨rfl, hr3, hb3⟩ := hst
          have hlt := step_len (x := q.1) (r := q.2) hs
          have HO3 := Lib.hid (HO2.out.kept hb3 hbs)
          have HR3 := Lib.hid hr3
          have HB3 := Lib.hid (HB2.out.trans hb3)
          have hsz3 : w.heap.size ≤ w3.heap.size := HB3.out.size
          have Hlt := Lib.hid hlt
          have hbl := hr3.lt
          obtain ⟨x, rest'⟩ := q
          clear hs hr3 hb3 HO2 HR2 HB2 HG2 hlt
          have hln := hlen.out
          clear hlen
          go_wp2_with (at_builtin; go_must (
            refine wpList_appG nOk rfl (.tmp 11) (.tmp 14) rfl w.heap.size _ acc [x] (some ⟨w3.heap.size, 0, none⟩) 1 1 rfl (HO3.out.alloc _) rfl rfl (SlG.new nOk.len [x] rfl) (by simp [maxLen]; omega) (by simp; omega) (by simp; omega) ?_
            intro v4 w4 hv4 hg4
            have HO4 := Lib.hid hv4
            have HR4 := Lib.hid (show Rq w4 b rest' from HR3.out.same fun k hk => (hg4.block k (by simp; omega) (fun e => by have := (HO3.out.lt _ e.symm).1; omega)).trans (Below.heap_alloc _ _ k (by omega)))
            have HB4 := Lib.hid ((HB3.out.alloc _).grown hg4 (fun k hk => by have := (HO3.out.lt k hk).1; omega))
            clear hv4 hg4))
          go_roundw
          case rel =>
            refine ⟨acc ++ [x], rest', HO4, HR4, HB4, ?_, ?_⟩
            · rw [he.out, Hap.out]
              simp only [Option.bind_some]
              refine Lib.hid ?_
              cases exprG rest' with
              | none => rfl
              | some z => simp
            · have := Hlt.out
              refine Lib.hid ?_
              simp at this ⊢; omega
          case measure =>
            have h1 := HR4.out.left
            have h2 := HL.out
            have h3 : rest'.length < rest.length := Hlt.out
            omega
      · rw [hq] at HH hap
        simp only [if_true] at hap
        have Hap := Lib.hid hap
        clear hq hap
        go_wp2_with fail
        refine HH.out.mono ?_
        rintro e w2 ⟨rfl, hr2, hb2⟩
        have HO2 := Lib.hid (ho.out.kept hb2 hbs)
        have HR2 := Lib.hid hr2
        have HB2 := Lib.hid (hb.out.trans hb2)
        obtain ⟨A, c, hv⟩ := ho.out.isSlice
        have hS : S = ExprS b w (if acc.length ≤ 100 then some (acc, (takeP s_rb rest).2) else none) := by
          rw [← HS.out]
          simp only [Option.bind_some, he.out, Hap.out, Option.map_some, List.append_nil]
        have HSS := Lib.hid hS
        have hln := hlen.out
        clear hr2 hb2 HH hb hr hlen ho HS he Hap hS
        subst hv
        by_cases h100 : acc.length ≤ 100
        · rw [if_pos h100] at HSS
          have hd : decide ((acc.length : Int) ≤ 100) = true := by simp; omega
          go_wp2_with fail
          refine (req_yes _).mono ?_
          rintro e w3 ⟨rfl, rfl⟩
          go_wp2
          rw [HSS.out]
          exact ⟨_, rfl, HO2.out, HR2.out, HB2.out⟩
        · rw [if_neg h100] at HSS
          have hd : decide ((acc.length : Int) ≤ 100) = false := by simp; omega
          go_wp2_with fail
          refine (req_no _).mono ?_
          rintro e w3 ⟨rfl, rfl⟩
          refine ⟨rfl, ?_⟩
          rw [HSS.out]
          exact ⟨rfl, HB2.out⟩
end Go.Proofs.YtjgpmnffagdhlaaGreatDoor
namespace Go.Proofs.YtjgpmnffagdhlaaGreatDoor
open Go Go.RowKit
set_option maxRecDepth 100000
/-- Block b holds the texts ss. -/
def Ts (w : World) (b : Nat) (ss : List ByteArray) : Prop := w.heap[b]? = some (.cells (ss.map Value.string).toArray 9 (0, 0))
theorem Ts.lt {w : World} {b : Nat} {ss : List ByteArray} (h : Ts w b ss) : b < w.heap.size := by
  rcases Nat.lt_or_ge b w.heap.size with hlt | hge
  · exact hlt
  · unfold Ts at h; rw [Array.getElem?_eq_none hge] at h; cases h
theorem Ts.after {w w' : World} {b : Nat} {ss : List ByteArray} (h : Ts w b ss) (hb : Below w.heap.size w w') : Ts w' b ss := (hb.block b h.lt).trans h
theorem Ts.cell {w : World} {b : Nat} {ss : List ByteArray} (h : Ts w b ss) (i : Nat) (s : ByteArray) (hk : ss[i]? = some s) : w.cell? ⟨b, i, none⟩ = some (.string s) := by
  unfold Ts at h; simp [World.cell?, h, hk]
theorem Ts.frozen {w : World} {b : Nat} {ss : List ByteArray} (h : Ts w b ss) (i : Nat) : w.frozen? ⟨b, i, none⟩ = false := by unfold Ts at h; simp [World.frozen?, h]
theorem Ts.set {w : World} {b : Nat} {ss : List ByteArray} (h : Ts w b ss) (i : Nat) (s : ByteArray) : Ts (w.setCell ⟨b, i, none⟩ (.string s)) b (ss.set i s) := by
  unfold Ts at *
  simp [World.setCell, Array.getElem?_modify, h, List.map_set]
theorem strInfo : (Tryz.prog.info? 9).map (fun i => (i.zero, i.size, i.bytes)) = some (some (.string emp), 1, 16) := by kernel_rfl
theorem make_strs (n : Nat) (hn : n ≤ 1000000) (w : World) : (Instr.makeSlice 76 (.int .i64 n) (.int .i64 n)).run Tryz.prog w = .ok (.slice (some ⟨w.heap.size, 0, none⟩) n n) (w.alloc (.cells ((List.replicate n emp).map Value.string).toArray 9)) := by
  obtain ⟨i0, hi, hz0, hz1, hz2⟩ := info_parts strInfo
  have h := run_make (P := Tryz.prog) w 76 9 i0 (.string emp) Tryz.underlying76 hi hz0 .i64 .i64 n n (by omega) (by omega) (by rw [hz2]; omega) (by omega)
  rw [h, hz1, Int.toNat_natCast, Nat.mul_one]
  have e : madeCells (Value.string emp).cells n = ((List.replicate n emp).map Value.string).toArray := by
    have h1 : (madeCells #[.string emp] n).toList = List.replicate n (.string emp) := toList_madeCells_one _ _
    rw [List.map_replicate, ← h1]
    rfl
  rw [e]
section
variable (wd : Nd → ByteArray)
/-- The words of the first k steps, and nothing behind. -/
def halfT (e : List Nd) (k : Nat) : List ByteArray := (e.take k).map wd ++ List.replicate (e.length - k) emp
theorem halfT_zero (e : List Nd) : halfT wd e 0 = List.replicate e.length emp := by simp [halfT]
theorem halfT_full (e : List Nd) (k : Nat) (h : e.length ≤ k) : halfT wd e k = e.map wd := by
  unfold halfT
  rw [List.take_of_length_le h, show e.length - k = 0 by omega]
  simp
theorem halfT_len (e : List Nd) (k : Nat) (h : k ≤ e.length) : (halfT wd e k).length = e.length := by simp [halfT]; omega
theorem halfT_step (e : List Nd) (k : Nat) (x : Nd) (h : e[k]? = some x) : (halfT wd e k).set k (wd x) = halfT wd e (k + 1) := by
  have hlt : k < e.length := (List.getElem?_eq_some_iff.1 h).1
  unfold halfT
  have hl : ((e.take k).map wd).length = k := by simp; omega
  rw [List.set_append_right _ _ (by omega), hl, Nat.sub_self, List.take_add_one, h, show e.length - k = (e.length - (k + 1)) + 1 by omega, List.replicate_succ]
  simp
end
/-- The print of an expression. -/
def textR (wd : Nd → ByteArray) (e : List Nd) : ByteArray := ⟨(Lib.join ((e.map wd).map (·.data.toList)) [32]).toArray⟩
set_option maxHeartbeats 4000000 in
theorem etext_c (wd : Nd → ByteArray) (A : Option Addr) (n c : Nat) (e : List Nd) (w : World) (hn : e.length = n) (h0 : 0 < n) (hmax : n ≤ 120) (hs : SlG w A 5 rdN e) (hlen : (Lib.join ((e.map wd).map (·.data.toList)) [32]).length ≤ 140737488355328)
    (hw : ∀ x ∈ e, ∀ w', Below w.heap.size w w' → Calls Tryz.prog 202 #[x.w] w' fun en w'' => en = .returned (.string (wd x)) ∧ Below w'.heap.size w' w'') :
    Calls Tryz.prog 186 #[.slice A n c] w fun en w' => en = .returned (.string (textR wd e)) ∧ Below w.heap.size w w' := by
  have hmk := make_strs n (by omega)
  have Hn := Lib.hid hn
  have Hs := Lib.hid hs
  have Hw := Lib.hid hw
  have Hl := Lib.hid hlen
  obtain ⟨R, hR⟩ : ∃ R, textR wd e = R := ⟨_, rfl⟩
  rw [hR]
  have HR := Lib.hid hR
  clear hn hs hw hR hlen
  obtain ⟨O, hO⟩ : ∃ O : Obj, O = .cells ((List.replicate n emp).map Value.string).toArray 9 := ⟨_, rfl⟩
  rw [← hO] at hmk
  have HO := Lib.hid hO
  clear hO
  go_enter Tryz.func186, Tryz.ntmps186
  go_wp2_with fail
  have hT : Ts (w.alloc O) w.heap.size (halfT wd e 0) := by
    rw [halfT_zero, Hn.out, HO.out]
    show (w.heap.push _)[w.heap.size]? = _
    simp
  have HT := Lib.hid hT
  have HB := Lib.hid (below_one w O)
  clear hT hmk
  generalize w.alloc O = w0 at HT HB ⊢
  go_loopw [11] (fun i wr => ∃ k : Nat, k ≤ n ∧ i = .int .i64 k ∧ Hid (Ts wr w.heap.size (halfT wd e k)) ∧ Hid (Below w.heap.size w wr)) (fun i _ => n - (intOf i).toNat)
  case atStart => exact ⟨0, Nat.zero_le _, rfl, HT, HB⟩
  case round =>
    obtain ⟨k, hk, rfl, hT, hbr⟩ := hrel
    by_cases hlt' : k < n
    · obtain ⟨x, hx⟩ : ∃ x, e[k]? = some x := ⟨e[k]'(by rw [Hn.out]; exact hlt'), List.getElem?_eq_getElem _⟩
      rcases Hs.out with h0 | ⟨b, off, rfl, hlt, hc⟩
      · rw [h0] at hx; simp at hx
      have hc1 := hc k x hx
      have d0 := (hbr.out.cell (p := ⟨b, off + k * 5, none⟩) hlt).trans (hc1 0 _ rfl)
      have d1 := (hbr.out.cell (p := ⟨b, off + k * 5 + 1, none⟩) hlt).trans (hc1 1 _ rfl)
      have d2 := (hbr.out.cell (p := ⟨b, off + k * 5 + 2, none⟩) hlt).trans (hc1 2 _ rfl)
      have d3 := (hbr.out.cell (p := ⟨b, off + k * 5 + 3, none⟩) hlt).trans (hc1 3 _ rfl)
      have d4 := (hbr.out.cell (p := ⟨b, off + k * 5 + 4, none⟩) hlt).trans (hc1 4 _ rfl)
      have Hstep := Lib.hid (halfT_step wd e k x hx)
      obtain ⟨y, hy⟩ : ∃ y, (halfT wd e k)[k]? = some y := ⟨(halfT wd e k)[k]'(by rw [halfT_len wd e k (by rw [Hn.out]; exact hk), Hn.out]; exact hlt'), List.getElem?_eq_getElem _⟩
      have Hy := Lib.hid hy
      have Hcall := Lib.hid (Hw.out x (List.mem_of_getElem? hx))
      clear hc1 hc hx hy
      go_wp2_with fail
      refine (Hcall.out _ (hbr.out.alloc hbr.out.size _)).mono ?_
      rintro en w1 ⟨rfl, hb1⟩
      have hb2 : Below wr.heap.size wr w1 := (below_one _ _).trans (hb1.mono (by simp))
      have T1 := hT.out.after hb2
      have HB1 := Lib.hid (hbr.out.trans (hb2.mono hbr.out.size))
      have t0 := T1.cell k y Hy.out
      have t1 := T1.frozen k
      have t2 := T1.lt
      obtain ⟨s, hs⟩ : ∃ s, wd x = s := ⟨_, rfl⟩
      rw [hs] at Hstep ⊢
      have HT1 := Lib.hid T1
      clear T1 hb1 hb2 hT hbr d0 d1 d2 d3 d4 Hcall hs
      go_wp2
      go_roundw
      case rel =>
        refine ⟨k + 1, by omega, by go_num, Lib.hid ?_, Lib.hid ?_⟩
        · rw [← Hstep.out]
          exact HT1.out.set k s
        · exact HB1.out.setCell (p := ⟨w.heap.size, k, none⟩) (Nat.le_refl _) _
      case measure => simp [intOf]; omega
    · have hkn : k = n := by omega
      have hT' := hT.out
      rw [halfT_full wd e k (by rw [Hn.out]; omega)] at hT'
      have hJ := Tryz.strings_Join w.heap.size 0 n (e.map wd) ⟨#[32]⟩ wr (fun j x hx => by rw [Nat.zero_add]; exact hT'.cell j x hx) hT'.lt (by rw [List.length_map, Hn.out]; omega) (by rw [List.length_map, Hn.out]; exact Nat.le_refl _) Hl.out
      rw [List.length_map, Hn.out] at hJ
      have HJ := Lib.hid hJ
      clear hT' hT hJ
      go_wp2_with fail
      refine HJ.out.mono ?_
      rintro en w1 ⟨rfl, hb1⟩
      have HB1 := Lib.hid (hbr.out.trans (hb1.mono hbr.out.size))
      have hR := HR.out
      unfold textR at hR
      rw [hR]
      clear hb1 hbr hR HJ
      go_wp2
      go_ret
      exact ⟨rfl, HB1.out⟩
/-- The words of operators, by their numbers. -/
def opL : List (List UInt8) := [[], [], [43], [45], [42], [61], [60], [97, 110, 100], [111, 114], [110, 111, 116], [110, 117, 108, 108, 63]]
/-- The word of a step. -/
def wordL (x : Nd) : List UInt8 := if x.op = 0 then 99 :: Lib.itoa x.n else if x.op = 1 then textL x.v else if x.op < 0 ∨ 11 ≤ x.op then [63] else opL.getD x.op.toNat []
/-- The program's table of words is as it was laid. -/
def OpT (w : World) : Prop := ∀ i s, opL[i]? = some s → w.cell? ⟨7, i, none⟩ = some (.string (ba s))
theorem OpT.lt {w : World} (h : OpT w) : 7 < w.heap.size := World.block_lt_of_cell? _ _ (h 0 [] rfl)
theorem OpT.below {w w' : World} {B : Nat} (h : OpT w) (hb : Below B w w') (hB : 7 < B) : OpT w' := fun i s hs => (hb.cell (p := ⟨7, i, none⟩) hB).trans (h i s hs)
set_option maxHeartbeats 4000000 in
theorem word_op (op n : Int) (v : Val) (k : Nat) (hk : op = k) (h2 : 2 ≤ k) (h11 : k < 11) (w : World) (hT : OpT w) :
    Calls Tryz.prog 202 #[(⟨op, n, v⟩ : Nd).w] w fun e w' => e = .returned (.string (ba (opL.getD k []))) ∧ Below w.heap.size w w' := by
  have hlt := hT.lt
  obtain ⟨s, hs⟩ : ∃ s, opL[k]? = some s := ⟨_, List.getElem?_eq_getElem (by show k < 11; exact h11)⟩
  have hg : opL.getD k [] = s := by simp [hs]
  rw [hg]
  have d := hT k s hs
  obtain ⟨u, hu⟩ : ∃ u : ByteArray, ba s = u := ⟨_, rfl⟩
  rw [hu] at d ⊢
  obtain ⟨a, b, c⟩ := v
  clear hs hg hu hT
  have hc : k = 2 ∨ k = 3 ∨ k = 4 ∨ k = 5 ∨ k = 6 ∨ k = 7 ∨ k = 8 ∨ k = 9 ∨ k = 10 := by omega
  clear h2 h11
  subst hk
  rcases hc with rfl | rfl | rfl | rfl | rfl | rfl | rfl | rfl | rfl
  all_goals
    go_enter Tryz.func202, Tryz.ntmps202
    go_wp2
    go_ret
    exact ⟨rfl, below_one _ _⟩
set_option maxHeartbeats 4000000 in
theorem word_out (op n : Int) (v : Val) (h : op < 0 ∨ 11 ≤ op) (w : World) :
    Calls Tryz.prog 202 #[(⟨op, n, v⟩ : Nd).w] w fun e w' => e = .returned (.string ⟨#[63]⟩) ∧ Below w.heap.size w w' := by
  obtain ⟨a, b, c⟩ := v
  rcases h with h | h
  · have h0 : decide (op < 0) = true := by simpa using h
    have h1 : ¬ op = 0 := by omega
    have h2 : ¬ op = 1 := by omega
    go_enter Tryz.func202, Tryz.ntmps202
    go_wp2
    go_ret
    exact ⟨rfl, below_one _ _⟩
  · have h0 : decide (op < 0) = false := by simp; omega
    have h3 : decide (op ≥ 11) = true := by simp; omega
    have h1 : ¬ op = 0 := by omega
    have h2 : ¬ op = 1 := by omega
    go_enter Tryz.func202, Tryz.ntmps202
    go_wp2
    go_ret
    exact ⟨rfl, below_one _ _⟩
set_option maxHeartbeats 4000000 in
theorem word_col (n : Int) (v : Val) (hn : -9223372036854775808 ≤ n ∧ n ≤ 9223372036854775807) (w : World) (hG : Gl w) :
    Calls Tryz.prog 202 #[(⟨0, n, v⟩ : Nd).w] w fun e w' => e = .returned (.string (ba (99 :: Lib.itoa n))) ∧ Below w.heap.size w w' := by
  obtain ⟨a, b, c⟩ := v
  have HI := Lib.hid (Tryz.strconv_Itoa n hn.1 hn.2 (w.alloc (.cells #[.int .i64 0, .int .i64 n, .int .i64 a, .int .i64 b, .string c] 66)) (hG.after (below_one w _)).tab)
  clear hG
  go_enter Tryz.func202, Tryz.ntmps202
  go_wp2_with fail
  refine HI.out.mono ?_
  rintro e w1 ⟨rfl, k, os, hw⟩
  have Hb := Lib.hid (show Below _ _ w1 by rw [hw]; exact below_grow _ k os)
  have hln := itoa_len n hn
  obtain ⟨t, ht⟩ : ∃ t, Lib.itoa n = t := ⟨_, rfl⟩
  rw [ht] at hln ⊢
  obtain ⟨u, hu⟩ : ∃ u : ByteArray, (⟨t.toArray⟩ : ByteArray) = u := ⟨_, rfl⟩
  have hus : u.size ≤ 21 := by rw [← hu]; exact hln
  rw [hu]
  have Hu := Lib.hid hu
  have Ht := Lib.hid ht
  clear ht HI hw hu hln
  go_wp2
  go_ret
  exact ⟨by rw [← Hu.out, Ht.out]; congr 2, (below_one _ _).trans (Hb.out.mono (by simp))⟩
set_option maxHeartbeats 4000000 in
theorem word_val (n : Int) (v : Val) (hv : -9223372036854775808 ≤ v.n ∧ v.n ≤ 9223372036854775807) (hs : v.s.size ≤ 2000) (w : World) (hG : Gl w) :
    Calls Tryz.prog 202 #[(⟨1, n, v⟩ : Nd).w] w fun e w' => e = .returned (.string (ba (textL v))) ∧ Below w.heap.size w w' := by
  obtain ⟨a, b, c⟩ := v
  have HI := Lib.hid (text_c ⟨a, b, c⟩ (w.alloc (.cells #[.int .i64 1, .int .i64 n, .int .i64 a, .int .i64 b, .string c] 66)) hv hs (hG.after (below_one w _)))
  obtain ⟨t, ht⟩ : ∃ t, textL ⟨a, b, c⟩ = t := ⟨_, rfl⟩
  rw [ht] at HI ⊢
  clear hG ht
  go_enter Tryz.func202, Tryz.ntmps202
  go_wp2_with fail
  refine HI.out.mono ?_
  rintro e w1 ⟨rfl, hb⟩
  have Hb := Lib.hid hb
  clear HI hb
  go_wp2
  go_ret
  exact ⟨rfl, (below_one _ _).trans (Hb.out.mono (by simp))⟩
end Go.Proofs.YtjgpmnffagdhlaaGreatDoor
namespace Go.Proofs.YtjgpmnffagdhlaaGreatDoor
open Go Go.RowKit
set_option maxRecDepth 100000
/-- A step whose numbers are ints and whose text is not long. -/
def NdOk (x : Nd) : Prop := (-9223372036854775808 ≤ x.n ∧ x.n ≤ 9223372036854775807) ∧ (-9223372036854775808 ≤ x.v.n ∧ x.v.n ≤ 9223372036854775807) ∧ x.v.s.size ≤ 2000
theorem nword_c (x : Nd) (hx : NdOk x) (w : World) (hG : Gl w) (hT : OpT w) :
    Calls Tryz.prog 202 #[x.w] w fun e w' => e = .returned (.string (ba (wordL x))) ∧ Below w.heap.size w w' := by
  obtain ⟨op, n, v⟩ := x
  obtain ⟨h1, h2, h3⟩ := hx
  unfold wordL
  simp only
  by_cases e0 : op = 0
  · subst e0; exact word_col n v h1 w hG
  · rw [if_neg e0]
    by_cases e1 : op = 1
    · subst e1; exact word_val n v h2 h3 w hG
    · rw [if_neg e1]
      by_cases e2 : op < 0 ∨ 11 ≤ op
      · rw [if_pos e2]; exact word_out op n v e2 w
      · rw [if_neg e2]
        obtain ⟨k, rfl⟩ : ∃ k : Nat, op = k := ⟨op.toNat, by omega⟩
        rw [Int.toNat_natCast]
        exact word_op k n v k rfl (by omega) (by omega) w hT
/-- The words of a step. -/
def stepW (x : Nd) : List (List UInt8) := if x.op = 10 then [w_null, s_qm] else [wordL x]
/-- What is known of the program's variables, where the writer runs; they lie below B. -/
structure Gw (B : Nat) (w : World) : Prop where
  gl : GL w
  op : OpT w
  lt : GLt B
  o : 7 < B
theorem Gw.below {B : Nat} {w w' : World} (h : Gw B w) (hb : Below B w w') : Gw B w' := ⟨h.gl.below hb h.lt, h.op.below hb h.o, h.lt, h.o⟩
theorem wordL_len (x : Nd) (hx : NdOk x) : (wordL x).length ≤ 10000 := by
  obtain ⟨op, n, v⟩ := x
  obtain ⟨h1, h2, h3⟩ := hx
  unfold wordL
  simp only
  by_cases e0 : op = 0
  · rw [if_pos e0]
    have := itoa_len n h1
    simp; omega
  · rw [if_neg e0]
    by_cases e1 : op = 1
    · rw [if_pos e1]
      exact Nat.le_trans (text_len v h2 h3) (by omega)
    · rw [if_neg e1]
      by_cases e2 : op < 0 ∨ 11 ≤ op
      · rw [if_pos e2]; simp
      · rw [if_neg e2]
        have : op.toNat = 2 ∨ op.toNat = 3 ∨ op.toNat = 4 ∨ op.toNat = 5 ∨ op.toNat = 6 ∨ op.toNat = 7 ∨ op.toNat = 8 ∨ op.toNat = 9 ∨ op.toNat = 10 := by omega
        rcases this with h | h | h | h | h | h | h | h | h <;> rw [h] <;> decide
theorem Wk.then {B b C : Nat} {u v w : World} (h : Wk B b u v) (k : Below C v w) (hC : v.heap.size ≤ C) (hB : B ≤ v.heap.size) : Wk B b u w :=
  ⟨h.below.trans (k.mono (by omega)), h.other.trans fun i o hi _ _ => (k.block i (Nat.lt_of_lt_of_le (Array.getElem?_eq_some_iff.1 hi).1 hC)).trans hi⟩
theorem WS.from {B b : Nat} {u v w : World} {o : Option (List UInt8)} {e : Ending} (h : Wk B b u v) (s : WS B b v o e w) : WS B b u o e w := by
  cases o with
  | none => exact ⟨s.1, h.trans s.2⟩
  | some l => exact ⟨s.1, s.2.1, s.2.2.1, h.trans s.2.2.2⟩
theorem Ws.new (w : World) (b : Nat) (ws : List (List UInt8)) (cs : Array Value) (hcs : cs = (ws.map fun s => Value.string (ba s)).toArray) (hb : b < w.heap.size) (k : Nat) (hk : k = w.heap.size) : Ws (w.alloc (.cells cs 9)) k b ws := by
  subst hcs hk
  exact ⟨Bk.new w _ _, by omega⟩
set_option maxHeartbeats 4000000 in
theorem step_w (B b : Nat) (l : List UInt8) (x : Nd) (w : World) (hw : Wr w B b l) (hl : l.length ≤ 20000) (hG : Gw B w) (hx : NdOk x) :
    Calls Tryz.prog 167 #[.pointer (some ⟨b, 0, none⟩), x.w] w (WS B b w (addW l (stepW x))) := by
  obtain ⟨S, hS⟩ : ∃ S, WS B b w (addW l (stepW x)) = S := ⟨_, rfl⟩
  rw [hS]
  have HS := Lib.hid hS
  have HW := Lib.hid hw
  have HG := Lib.hid hG
  have Hx := Lib.hid hx
  have HL := Lib.hid hl
  have hbw := hw.lt
  have hBw := hw.le
  clear hS hw hG hx hl
  obtain ⟨op, n, v, m, s⟩ := x
  by_cases h10 : op = 10
  · subst h10
    go_enter Tryz.func167, Tryz.ntmps167
    go_wp2_with fail
    refine (add_c B b (w.heap.size + 1) l [w_null, s_qm] 2 _ ((HW.out.alloc _).alloc _) HL.out (Ws.new (w.alloc _) b [w_null, s_qm] _ rfl (by simp; omega) _ (by simp)) rfl (by omega) (by intro s hs; simp at hs; rcases hs with rfl | rfl <;> decide)).mono ?_
    rintro e w5 hs
    have hs := WS.from (((Wk.refl B b w).alloc hBw _).alloc (by simp; omega) _) hs
    have ho : addW l (stepW ⟨10, n, v, m, s⟩) = addW l [w_null, s_qm] := rfl
    rw [ho] at HS
    clear ho
    cases ho : addW l [w_null, s_qm] with
    | none =>
      rw [ho] at hs HS
      obtain ⟨rfl, hk⟩ := hs
      refine ⟨rfl, ?_⟩
      rw [← HS.out]
      exact ⟨rfl, hk⟩
    | some q =>
      rw [ho] at hs HS
      obtain ⟨rfl, h2⟩ := hs
      have H2 := Lib.hid h2
      clear h2
      go_wp2
      go_end0
      rw [← HS.out]
      exact ⟨rfl, H2.out⟩
  · obtain ⟨y, hy⟩ : ∃ y : Nd, y = ⟨op, n, v, m, s⟩ := ⟨_, rfl⟩
    obtain ⟨t, ht⟩ : ∃ t, wordL ⟨op, n, v, m, s⟩ = t := ⟨_, rfl⟩
    have hto := wordL_len _ Hx.out
    rw [ht] at hto
    have ho : addW l (stepW ⟨op, n, v, m, s⟩) = addW l [t] := by unfold stepW; rw [if_neg h10, ht]
    rw [ho] at HS
    have hR : textR (fun x => ba (wordL x)) [⟨op, n, v, m, s⟩] = ba t := by
      unfold textR
      rw [List.map_cons, List.map_nil, ht]
      simp [Lib.join, ba]
    have Ht := Lib.hid ht
    have Hto := Lib.hid hto
    have HR := Lib.hid hR
    have HE := Lib.hid (fun (u : World) (hu : Below B w u) (A : Addr) (hs : SlG u (some A) 5 rdN [(⟨op, n, v, m, s⟩ : Nd)]) => etext_c (fun x => ba (wordL x)) (some A) 1 1 [⟨op, n, v, m, s⟩] u rfl (by omega) (by omega) hs (by
      rw [List.map_cons, List.map_nil, ht]
      simp [Lib.join, ba]; omega) (fun x hx u2 hu2 => by
        have hx : x = ⟨op, n, v, m, s⟩ := by simpa using hx
        subst hx
        have hg := (HG.out.below hu).below (hu2.mono (Nat.le_trans hBw hu.size))
        exact nword_c _ Hx.out u2 hg.gl.gl hg.op))
    clear hy ho hR ht hto
    go_enter Tryz.func167, Tryz.ntmps167
    go_wp2_with fail
    refine (HE.out _ (((Below.refl B w).alloc hBw _).alloc (by simp; omega) _) ⟨w.heap.size + 1, 0, none⟩ (SlG.newAt (by simp) nOk.len [(⟨op, n, v, m, s⟩ : Nd)] rfl)).mono ?_
    rintro e w5 ⟨rfl, hb5⟩
    rw [HR.out]
    have hb5' : Below (w.heap.size) w w5 := ((below_one w _).trans ((below_one _ _).mono (by simp))).trans (hb5.mono (by simp; omega))
    have hsz5 := hb5'.size
    have HB5 := Lib.hid hb5'
    have HW5 := Lib.hid (HW.out.after hb5')
    have HK5 := Lib.hid ((Wk.refl B b w).then hb5' (Nat.le_refl _) hBw)
    obtain ⟨u, hu⟩ : ∃ u, ba t = u := ⟨_, rfl⟩
    rw [hu]
    have Hu := Lib.hid hu
    clear hb5 hb5' HE hu
    go_wp2_with fail
    refine (add_c B b w5.heap.size l [t] 1 _ (HW5.out.alloc _) HL.out (Ws.new w5 b [t] _ (by rw [← Hu.out]; rfl) (by omega) _ rfl) rfl (by omega) (by intro s hs; simp at hs; subst hs; have := Hto.out; omega)).mono ?_
    rintro e w6 hs
    have hs := WS.from (HK5.out.alloc (by omega) _) hs
    cases ho : addW l [t] with
    | none =>
      rw [ho] at hs HS
      obtain ⟨rfl, hk⟩ := hs
      refine ⟨rfl, ?_⟩
      rw [← HS.out]
      exact ⟨rfl, hk⟩
    | some q =>
      rw [ho] at hs HS
      obtain ⟨rfl, h2⟩ := hs
      have H2 := Lib.hid h2
      clear h2
      go_wp2
      go_end0
      rw [← HS.out]
      exact ⟨rfl, H2.out⟩
end Go.Proofs.YtjgpmnffagdhlaaGreatDoor
namespace Go.Proofs.YtjgpmnffagdhlaaGreatDoor
open Go Go.RowKit
set_option maxRecDepth 100000
theorem addW_app : ∀ (a c : List (List UInt8)) (l : List UInt8), addW l (a ++ c) = (addW l a).bind fun q => addW q c
  | [], c, l => rfl
  | s :: a, c, l => by
    rw [List.cons_append, addW, addW]
    split
    · exact addW_app a c _
    · rfl
/-- The words of an expression. -/
def exprW (e : List Nd) : List (List UInt8) := s_lb :: (e.flatMap stepW ++ [s_rb])
set_option maxHeartbeats 4000000 in
theorem expr_w (B b : Nat) (l : List UInt8) (e : List Nd) (A : Option Addr) (n c : Nat) (w : World) (hw : Wr w B b l) (hl : l.length ≤ 20000) (hG : Gw B w) (hx : ∀ x ∈ e, NdOk x) (hn : e.length = n) (hm : n ≤ maxLen) (hs : ∀ u, Below B w u → SlG u A 5 rdN e) :
    Calls Tryz.prog 122 #[.pointer (some ⟨b, 0, none⟩), .slice A n c] w (WS B b w (addW l (exprW e))) := by
  obtain ⟨S, hS⟩ : ∃ S, WS B b w (addW l (exprW e)) = S := ⟨_, rfl⟩
  rw [hS]
  have HS := Lib.hid hS
  have HW := Lib.hid hw
  have HG := Lib.hid hG
  have Hx := Lib.hid hx
  have HL := Lib.hid hl
  have Hn := Lib.hid hn
  have Hs := Lib.hid hs
  have hbw := hw.lt
  have hBw := hw.le
  unfold maxLen at hm
  clear hS hw hG hx hl hn hs
  go_enter Tryz.func122, Tryz.ntmps122
  go_wp2_with fail
  refine (add_c B b w.heap.size l [s_lb] 1 _ (HW.out.alloc _) HL.out (Ws.new w b [s_lb] _ rfl hbw _ rfl) rfl (by omega) (by intro s hs; simp at hs; subst hs; decide)).mono ?_
  rintro en w1 hs1
  have hs1 := WS.from ((Wk.refl B b w).alloc hBw _) hs1
  have ho : addW l (exprW e) = (addW l [s_lb]).bind fun q => addW q (e.flatMap stepW ++ [s_rb]) := addW_app [s_lb] _ l
  cases h1 : addW l [s_lb] with
  | none =>
    rw [h1] at hs1 ho
    obtain ⟨rfl, hk⟩ := hs1
    refine ⟨rfl, ?_⟩
    rw [← HS.out, ho]
    exact ⟨rfl, hk⟩
  | some l1 =>
    rw [h1] at hs1 ho
    obtain ⟨rfl, hw1, hl1, hk1⟩ := hs1
    have Ho := Lib.hid ho
    have HW1 := Lib.hid hw1
    have HL1 := Lib.hid hl1
    have HK1 := Lib.hid hk1
    clear h1 ho hw1 hl1 hk1 HW
    go_wp2_with fail
    go_loopw [11] (fun i wr => ∃ (k : Nat) (lc : List UInt8), k ≤ n ∧ i = .int .i64 k ∧ Hid (Wr wr B b lc) ∧ Hid (lc.length ≤ 20000) ∧ Hid (Wk B b w wr) ∧ Hid (addW l (exprW e) = addW lc ((e.drop k).flatMap stepW ++ [s_rb]))) (fun i _ => n - (intOf i).toNat)
    case atStart => exact ⟨0, l1, Nat.zero_le _, rfl, HW1, HL1, HK1, Ho⟩
    case round =>
      obtain ⟨k, lc, hk, rfl, hwr, hlc, hkr, he⟩ := hrel
      have hbr := hwr.out.lt
      have hBr := hwr.out.le
      by_cases hlt : k < n
      · obtain ⟨x, hx⟩ : ∃ x, e[k]? = some x := ⟨_, List.getElem?_eq_getElem (by rw [Hn.out]; exact hlt)⟩
        have hsr := Hs.out wr hkr.out.below
        obtain ⟨c2, off, hA, hc2, hcell⟩ : ∃ c2 off, A = some ⟨c2, off, none⟩ ∧ c2 < wr.heap.size ∧ ∀ i x, e[i]? = some x → ∀ j u, (rdN x)[j]? = some u → wr.cell? ⟨c2, off + i * 5 + j, none⟩ = some u := by
          rcases hsr with h | h
          · rw [h] at hx; simp at hx
          · exact h
        subst hA
        have d0 := hcell k x hx 0 _ rfl
        have d1 := hcell k x hx 1 _ rfl
        have d2 := hcell k x hx 2 _ rfl
        have d3 := hcell k x hx 3 _ rfl
        have d4 := hcell k x hx 4 _ rfl
        simp only [Nat.add_zero] at d0
        have hok := Hx.out x (List.mem_of_getElem? hx)
        have hdr : e.drop k = x :: e.drop (k + 1) := by
          rw [List.drop_eq_getElem_cons (by rw [Hn.out]; exact hlt)]
          congr 1
          rw [List.getElem?_eq_getElem (by rw [Hn.out]; exact hlt)] at hx
          exact Option.some.inj hx
        have he2 := he.out
        rw [hdr, List.flatMap_cons, List.append_assoc, addW_app] at he2
        have He2 := Lib.hid he2
        have Hok := Lib.hid hok
        clear hcell hsr hx hdr he he2 hok
        go_wp2_with fail
        refine (step_w B b lc x _ (hwr.out.alloc _) hlc.out ((HG.out.below hkr.out.below).below ((Below.refl B wr).alloc hBr _)) Hok.out).mono ?_
        rintro en w5 hs5
        have hs5 := WS.from (hkr.out.alloc hBr _) hs5
        cases h5 : addW lc (stepW x) with
        | none =>
          have he5 := He2.out
          rw [h5] at hs5 he5
          obtain ⟨rfl, hk5⟩ := hs5
          refine ⟨rfl, ?_⟩
          rw [← HS.out, he5]
          exact ⟨rfl, hk5⟩
        | some l5 =>
          have he5 := He2.out
          rw [h5] at hs5 he5
          obtain ⟨rfl, hw5, hl5, hk5⟩ := hs5
          have HW5 := Lib.hid hw5
          have HL5 := Lib.hid hl5
          have HK5 := Lib.hid hk5
          have He5 := Lib.hid he5
          clear h5 hw5 hl5 hk5 he5 He2 d0 d1 d2 d3 d4
          go_wp2_with fail
          go_roundw
          case rel => exact ⟨k + 1, l5, hlt, by simp, HW5, HL5, HK5, He5⟩
          case measure => simp [intOf]; omega
      · obtain rfl : k = n := by omega
        have he2 := he.out
        rw [List.drop_eq_nil_of_le (by rw [Hn.out]; exact Nat.le_refl _), List.flatMap_nil, List.nil_append] at he2
        have He2 := Lib.hid he2
        clear he he2
        go_wp2_with fail
        refine (add_c B b wr.heap.size lc [s_rb] 1 _ (hwr.out.alloc _) hlc.out (Ws.new wr b [s_rb] _ rfl hbr _ rfl) rfl (by omega) (by intro s hs; simp at hs; subst hs; decide)).mono ?_
        rintro en w6 hs6
        have hs6 := WS.from (hkr.out.alloc hBr _) hs6
        rw [← He2.out, HS.out] at hs6
        have H6 := hs6
        rw [← HS.out] at hs6
        cases h6 : addW l (exprW e) with
        | none =>
          rw [h6] at hs6
          obtain ⟨rfl, hk6⟩ := hs6
          exact ⟨rfl, H6⟩
        | some l6 =>
          rw [h6] at hs6
          obtain ⟨rfl, h6b⟩ := hs6
          have HH6 := Lib.hid H6
          clear h6 h6b H6
          go_wp2
          go_end0
          exact HH6.out
end Go.Proofs.YtjgpmnffagdhlaaGreatDoor
namespace Go.Proofs.YtjgpmnffagdhlaaGreatDoor
open Go Go.RowKit
set_option maxRecDepth 100000
set_option maxHeartbeats 4000000 in
theorem number_w (B b : Nat) (l : List UInt8) (n : Int) (w : World) (hw : Wr w B b l) (hl : l.length ≤ 20000) (hG : Gw B w) (hn : -9223372036854775808 ≤ n ∧ n ≤ 9223372036854775807) :
    Calls Tryz.prog 124 #[.pointer (some ⟨b, 0, none⟩), .int .i64 n] w (WS B b w (addW l [Lib.itoa n])) := by
  have hln := itoa_len n hn
  have HI := Lib.hid (Tryz.strconv_Itoa n hn.1 hn.2 w hG.gl.gl.tab)
  obtain ⟨t, ht⟩ : ∃ t, Lib.itoa n = t := ⟨_, rfl⟩
  rw [ht] at HI hln ⊢
  obtain ⟨S, hS⟩ : ∃ S, WS B b w (addW l [t]) = S := ⟨_, rfl⟩
  rw [hS]
  obtain ⟨u, hu⟩ : ∃ u : ByteArray, (⟨t.toArray⟩ : ByteArray) = u := ⟨_, rfl⟩
  rw [hu] at HI
  have Hu := Lib.hid (show ba t = u from hu)
  have HS := Lib.hid hS
  have HW := Lib.hid hw
  have HL := Lib.hid hl
  have Hln := Lib.hid hln
  have hbw := hw.lt
  have hBw := hw.le
  clear hS hw hG hl ht hu hln
  go_enter Tryz.func124, Tryz.ntmps124
  go_wp2_with fail
  refine HI.out.mono ?_
  rintro e w1 ⟨rfl, k, os, hw1⟩
  have hb1 : Below w.heap.size w w1 := by rw [hw1]; exact below_grow _ k os
  have hz1 := hb1.size
  have HW1 := Lib.hid (HW.out.after hb1)
  have HK1 := Lib.hid ((Wk.refl B b w).then hb1 (Nat.le_refl _) hBw)
  clear hw1 hb1 HI
  go_wp2_with fail
  refine (add_c B b w1.heap.size l [t] 1 _ (HW1.out.alloc _) HL.out (Ws.new w1 b [t] _ (by rw [← Hu.out]; rfl) (by omega) _ rfl) rfl (by omega) (by intro s hs; simp at hs; subst hs; have := Hln.out; omega)).mono ?_
  rintro e w6 hs
  have hs := WS.from (HK1.out.alloc (by omega) _) hs
  have H6 := hs
  rw [HS.out] at H6
  cases ho : addW l [t] with
  | none =>
    rw [ho] at hs
    obtain ⟨rfl, hk⟩ := hs
    exact ⟨rfl, H6⟩
  | some q =>
    rw [ho] at hs
    obtain ⟨rfl, h2⟩ := hs
    have HH := Lib.hid H6
    clear h2 H6
    go_wp2
    go_end0
    exact HH.out
/-- The word of a number. -/
def chW (a : Int) (ws : List (List UInt8)) : Option (List (List UInt8)) := if 0 ≤ a ∧ a < ws.length then some [ws.getD a.toNat []] else none
theorem WS.out {B b : Nat} {w w' : World} {o : Option (List UInt8)} {e : Ending} {S : Ending → World → Prop} (h : WS B b w o e w') (hS : WS B b w o = S) : (e = .panicked (boom 70) ∧ S (.panicked (boom 70)) w') ∨ (e = .returned (.tuple #[]) ∧ S (.returned (.tuple #[])) w') := by
  subst hS
  have h2 := h
  cases o with
  | none => obtain ⟨rfl, _⟩ := h2; exact .inl ⟨rfl, h⟩
  | some q => obtain ⟨rfl, _⟩ := h2; exact .inr ⟨rfl, h⟩
set_option maxHeartbeats 4000000 in
theorem choice_w (B b k0 : Nat) (l : List UInt8) (a : Int) (ws : List (List UInt8)) (nw : Nat) (w : World) (hw : Wr w B b l) (hl : l.length ≤ 20000) (hW : Ws w k0 b ws) (hnw : ws.length = nw) (hmw : nw ≤ 1000) (hsm : ∀ s ∈ ws, s.length ≤ 1000) :
    Calls Tryz.prog 82 #[.pointer (some ⟨b, 0, none⟩), .int .i64 a, .slice (some ⟨k0, 0, none⟩) nw nw] w (WS B b w ((chW a ws).bind (addW l))) := by
  obtain ⟨S, hS⟩ : ∃ S, WS B b w ((chW a ws).bind (addW l)) = S := ⟨_, rfl⟩
  rw [hS]
  have HS := Lib.hid hS
  have HW := Lib.hid hw
  have HL := Lib.hid hl
  have HWs := Lib.hid hW
  have Hn := Lib.hid hnw
  have Hsm := Lib.hid hsm
  have hbw := hw.lt
  have hBw := hw.le
  clear hS hw hl hW hnw hsm
  by_cases h0 : a < 0
  · have hd : decide (a ≥ 0) = false := by simp; omega
    have ho : chW a ws = none := by unfold chW; rw [if_neg (by omega)]
    rw [ho] at HS
    clear ho
    go_enter Tryz.func82, Tryz.ntmps82
    go_wp2_with fail
    refine (req_c _ _).mono ?_
    rintro e w6 ⟨rfl, hw9⟩
    obtain rfl := hw9.symm
    refine ⟨rfl, ?_⟩
    rw [← HS.out]
    exact ⟨rfl, Wk.refl B b w⟩
  · obtain ⟨i, rfl⟩ : ∃ i : Nat, a = i := ⟨a.toNat, by omega⟩
    clear h0
    have h0 : ((i : Int) ≥ 0) := by omega
    by_cases hlt : i < nw
    · obtain ⟨s, hs⟩ : ∃ s, ws[i]? = some s := ⟨_, List.getElem?_eq_getElem (by rw [Hn.out]; exact hlt)⟩
      have ho : chW (i : Int) ws = some [s] := by
        unfold chW
        rw [if_pos ⟨by omega, by rw [Hn.out]; omega⟩, Int.toNat_natCast, List.getD_eq_getElem?_getD, hs]
        rfl
      rw [ho] at HS
      have d := HWs.out.cell hs
      obtain ⟨u, hu⟩ : ∃ u, ba s = u := ⟨_, rfl⟩
      rw [hu] at d
      have Hu := Lib.hid hu
      have Hl := Lib.hid (Hsm.out s (List.mem_of_getElem? hs))
      clear ho hs hu
      go_enter Tryz.func82, Tryz.ntmps82
      go_wp2_with fail
      refine (req_c _ _).mono ?_
      rintro e w6 ⟨rfl, hw9⟩
      obtain rfl := hw9.symm
      simp only [if_true]
      go_wp2_with fail
      refine (add_c B b w.heap.size l [s] 1 _ (HW.out.alloc _) HL.out (Ws.new w b [s] _ (by rw [← Hu.out]; rfl) hbw _ rfl) rfl (by omega) (by intro s hs; simp at hs; subst hs; have := Hl.out; omega)).mono ?_
      rintro e w7 hs
      rcases (WS.from ((Wk.refl B b w).alloc hBw _) hs).out HS.out with ⟨rfl, h⟩ | ⟨rfl, h⟩
      · exact ⟨rfl, h⟩
      · have HH := Lib.hid h
        clear h hs
        go_wp2
        go_end0
        exact HH.out
    · have hd : decide ((i : Int) < nw) = false := by simp; omega
      have ho : chW (i : Int) ws = none := by unfold chW; rw [if_neg (by rw [Hn.out]; omega)]
      rw [ho] at HS
      clear ho
      go_enter Tryz.func82, Tryz.ntmps82
      go_wp2_with fail
      refine (req_c _ _).mono ?_
      rintro e w6 ⟨rfl, hw9⟩
      obtain rfl := hw9.symm
      refine ⟨rfl, ?_⟩
      rw [← HS.out]
      exact ⟨rfl, Wk.refl B b w⟩
end Go.Proofs.YtjgpmnffagdhlaaGreatDoor
namespace Go.Proofs.YtjgpmnffagdhlaaGreatDoor
open Go Go.RowKit
set_option maxRecDepth 100000
/-- Words behind words, if both are there. -/
def catW (o p : Option (List (List UInt8))) : Option (List (List UInt8)) := o.bind fun x => p.map fun y => x ++ y
theorem catW_add (o p : Option (List (List UInt8))) (l : List UInt8) : (catW o p).bind (addW l) = (o.bind (addW l)).bind fun q => p.bind (addW q) := by
  cases o with
  | none => rfl
  | some x =>
    cases p with
    | none => simp [catW]
    | some y => simp [catW, addW_app]
/-- Items with a comma ahead of each; items with commas between. -/
def tailW {α : Type} (f : α → Option (List (List UInt8))) : List α → Option (List (List UInt8))
  | [] => some []
  | a :: r => catW (some [s_cm]) (catW (f a) (tailW f r))
def listW {α : Type} (f : α → Option (List (List UInt8))) : List α → Option (List (List UInt8))
  | [] => some []
  | a :: r => catW (f a) (tailW f r)
def restW {α : Type} (f : α → Option (List (List UInt8))) (k : Nat) (xs : List α) : Option (List (List UInt8)) := if k = 0 then listW f xs else tailW f xs
set_option maxHeartbeats 8000000 in
theorem list_w {α : Type} (f : α → Option (List (List UInt8))) (xs : List α) (B b : Nat) (F : Nat) (p1 p2 : Value) (l : List UInt8) (n : Nat) (w : World) (hw : Wr w B b l) (hl : l.length ≤ 20000) (hn : xs.length = n) (hm : n ≤ maxLen)
    (hit : ∀ (k : Nat) (a : α) (u : World) (lc : List UInt8), xs[k]? = some a → Wk B b w u → Wr u B b lc → lc.length ≤ 20000 → Calls Tryz.prog F #[.int .i64 k, p1, p2] u (WS B b u ((f a).bind (addW lc))))
    (hF : ∀ (u : World) (k : Nat), (callFunc F #[.int .i64 k, p1, p2]).run Tryz.prog u = .ok (.enter F #[.int .i64 k, p1, p2]) u) :
    Calls Tryz.prog 119 #[.pointer (some ⟨b, 0, none⟩), .int .i64 n, .func (.func F) #[] #[p1, p2]] w (WS B b w ((listW f xs).bind (addW l))) := by
  obtain ⟨S, hS⟩ : ∃ S, WS B b w ((listW f xs).bind (addW l)) = S := ⟨_, rfl⟩
  rw [hS]
  have HS := Lib.hid hS
  have Hit := Lib.hid hit
  have HW := Lib.hid hw
  have HL := Lib.hid hl
  have Hn := Lib.hid hn
  have hbw := hw.lt
  have hBw := hw.le
  unfold maxLen at hm
  clear hS hit hw hl hn
  go_enter Tryz.func119, Tryz.ntmps119
  go_wp2_with fail
  go_loopw [8] (fun i wr => ∃ (k : Nat) (lc : List UInt8), k ≤ n ∧ i = .int .i64 k ∧ Hid (Wr wr B b lc) ∧ Hid (lc.length ≤ 20000) ∧ Hid (Wk B b w wr) ∧ Hid ((listW f xs).bind (addW l) = (restW f k (xs.drop k)).bind (addW lc))) (fun i _ => n - (intOf i).toNat)
  case atStart => exact ⟨0, l, Nat.zero_le _, rfl, HW, HL, Lib.hid (Wk.refl B b _), Lib.hid rfl⟩
  case round =>
    obtain ⟨k, lc, hk, rfl, hwr, hlc, hkr, he⟩ := hrel
    have hbr := hwr.out.lt
    have hBr := hwr.out.le
    by_cases hlt : k < n
    · obtain ⟨a, ha⟩ : ∃ a, xs[k]? = some a := ⟨_, List.getElem?_eq_getElem (by rw [Hn.out]; exact hlt)⟩
      have hdr : xs.drop k = a :: xs.drop (k + 1) := by
        rw [List.drop_eq_getElem_cons (by rw [Hn.out]; exact hlt)]
        congr 1
        rw [List.getElem?_eq_getElem (by rw [Hn.out]; exact hlt)] at ha
        exact Option.some.inj ha
      have he2 := he.out
      rw [hdr] at he2
      have Ha := Lib.hid ha
      clear hdr he ha
      by_cases hk0 : k = 0
      · subst hk0
        have he3 : (listW f xs).bind (addW l) = ((f a).bind (addW lc)).bind fun q => (tailW f (xs.drop 1)).bind (addW q) := he2.trans (catW_add _ _ _)
        have He := Lib.hid he3
        clear he2 he3
        have hF0 : (callFunc F #[.int .i64 0, p1, p2]).run Tryz.prog wr = .ok (.enter F #[.int .i64 0, p1, p2]) wr := hF wr 0
        go_wp2_with fail
        refine (Hit.out 0 a wr lc Ha.out hkr.out hwr.out hlc.out).mono ?_
        rintro e w5 hs
        have hs5 := WS.from hkr.out hs
        cases h5 : (f a).bind (addW lc) with
        | none =>
          have he5 := He.out
          rw [h5] at hs5 he5
          obtain ⟨rfl, hk5⟩ := hs5
          refine ⟨rfl, ?_⟩
          rw [← HS.out, he5]
          exact ⟨rfl, hk5⟩
        | some l5 =>
          have he5 := He.out
          rw [h5] at hs5 he5
          obtain ⟨rfl, hw5, hl5, hk5⟩ := hs5
          have HW5 := Lib.hid hw5
          have HL5 := Lib.hid hl5
          have HK5 := Lib.hid hk5
          have He5 : Hid ((listW f xs).bind (addW l) = (restW f (0 + 1) (xs.drop (0 + 1))).bind (addW l5)) := Lib.hid (he5.trans (by unfold restW; rw [if_neg (by omega)]; rfl))
          clear h5 hw5 hl5 hk5 he5 He hs hF0
          go_wp2_with fail
          go_roundw
          case rel => exact ⟨0 + 1, l5, hlt, by simp, HW5, HL5, HK5, He5⟩
          case measure => simp [intOf]; omega
      · have he3 : (listW f xs).bind (addW l) = (addW lc [s_cm]).bind fun q => (catW (f a) (tailW f (xs.drop (k + 1)))).bind (addW q) := by
          rw [he2]
          unfold restW
          rw [if_neg hk0, tailW, catW_add]
          rfl
        have He3 := Lib.hid he3
        have hk1 : ((k : Int) > 0) := by omega
        clear he2 he3
        go_wp2_with fail
        refine (add_c B b wr.heap.size lc [s_cm] 1 _ (hwr.out.alloc _) hlc.out (Ws.new wr b [s_cm] _ rfl hbr _ rfl) rfl (by omega) (by intro s hs; simp at hs; subst hs; decide)).mono ?_
        rintro e w3 hs
        have hs3 := WS.from (hkr.out.alloc hBr _) hs
        clear hs
        cases h3 : addW lc [s_cm] with
        | none =>
          have he4 := He3.out
          rw [h3] at hs3 he4
          obtain ⟨rfl, hk5⟩ := hs3
          refine ⟨rfl, ?_⟩
          rw [← HS.out, he4]
          exact ⟨rfl, hk5⟩
        | some l1 =>
          have he4 := He3.out
          rw [h3] at hs3 he4
          obtain ⟨rfl, hw3, hl3, hk3⟩ := hs3
          have he5 : (listW f xs).bind (addW l) = ((f a).bind (addW l1)).bind fun q => (tailW f (xs.drop (k + 1))).bind (addW q) := he4.trans (catW_add _ _ _)
          have He := Lib.hid he5
          have HW3 := Lib.hid hw3
          have HL3 := Lib.hid hl3
          have hk1 := Lib.hid hk3
          have hF0 := hF w3 k
          clear h3 he4 he5 hw3 hl3 hk3 He3
          go_wp2_with fail
          refine (Hit.out k a w3 l1 Ha.out hk1.out HW3.out HL3.out).mono ?_
          rintro e w5 hs
          have hs5 := WS.from hk1.out hs
          cases h5 : (f a).bind (addW l1) with
          | none =>
            have he5 := He.out
            rw [h5] at hs5 he5
            obtain ⟨rfl, hk5⟩ := hs5
            refine ⟨rfl, ?_⟩
            rw [← HS.out, he5]
            exact ⟨rfl, hk5⟩
          | some l5 =>
            have he5 := He.out
            rw [h5] at hs5 he5
            obtain ⟨rfl, hw5, hl5, hk5⟩ := hs5
            have HW5 := Lib.hid hw5
            have HL5 := Lib.hid hl5
            have HK5 := Lib.hid hk5
            have He5 : Hid ((listW f xs).bind (addW l) = (restW f (k + 1) (xs.drop (k + 1))).bind (addW l5)) := Lib.hid (he5.trans (by unfold restW; rw [if_neg (by omega)]; rfl))
            clear h5 hw5 hl5 hk5 he5 He hs hF0
            go_wp2_with fail
            go_roundw
            case rel => exact ⟨k + 1, l5, hlt, by simp, HW5, HL5, HK5, He5⟩
            case measure => simp [intOf]; omega
    · obtain rfl : k = n := by omega
      have he2 := he.out
      rw [List.drop_eq_nil_of_le (by rw [Hn.out]; exact Nat.le_refl _)] at he2
      have he3 : (listW f xs).bind (addW l) = some lc := by rw [he2]; unfold restW; split <;> rfl
      have He := Lib.hid he3
      clear he he2 he3
      go_wp2
      go_end0
      rw [← HS.out, He.out]
      exact ⟨rfl, hwr.out, hlc.out, hkr.out⟩
end Go.Proofs.YtjgpmnffagdhlaaGreatDoor
namespace Go.Proofs.YtjgpmnffagdhlaaGreatDoor
open Go Go.RowKit
set_option maxRecDepth 100000
/-- Words, in a block that is made for them. -/
abbrev wdN (w : World) (ws : List (List UInt8)) : World := w.alloc (.cells (ws.map fun s => Value.string (ba s)).toArray 9)
theorem flat_ws (ws : List (List UInt8)) : ws.flatMap rdS = ws.map fun s => Value.string (ba s) := by
  induction ws with
  | nil => rfl
  | cons s ws ih => rw [List.flatMap_cons, ih]; rfl
theorem slWN (w : World) (ws : List (List UInt8)) : SlG (wdN w ws) (some ⟨w.heap.size, 0, none⟩) 1 rdS ws := SlG.new (rd := rdS) (S := 1) (fun _ => rfl) ws (by rw [flat_ws])
theorem choiceN_c (b g : Nat) (l : List Tk) (ws : List (List UInt8)) (h0 : ∀ s ∈ ws, s ≠ []) (hw0 : ws ≠ []) (hm : ws.length ≤ maxLen) (w : World) (hg : w.heap.size = g) (hR : Rq w b l) :
    Calls Tryz.prog 100 #[.pointer (some ⟨b, 0, none⟩), .slice (some ⟨g, 0, none⟩) ws.length ws.length] (wdN w ws) fun e w' => match oneP ws l with
      | none => e = .panicked (boom 70) ∧ Apb b w w'
      | some q => e = .returned (.int .i64 q.1) ∧ Rq w' b q.2 ∧ Apb b w w' := by
  subst hg
  have hlt := hR.lt
  refine (choice_cR b l ws (some ⟨w.heap.size, 0, none⟩) ws.length ws.length (wdN w ws) (hR.alloc _) (slWN w ws) (fun k hk => by simp at hk; omega) rfl hm h0 hw0).mono ?_
  intro e w' h
  cases hq : oneP ws l with
  | none => rw [hq] at h; exact ⟨h.1, h.2.of_alloc⟩
  | some q => rw [hq] at h; exact ⟨h.1, h.2.1, h.2.2.of_alloc⟩
theorem kinds_c (w : World) : Calls Tryz.prog 165 #[] w fun e w' => e = .returned (.slice (some ⟨w.heap.size, 0, none⟩) 3 3) ∧ w' = wdN w [w_bool, w_int, w_text] := by
  go_enter Tryz.func165, Tryz.ntmps165
  go_wp2
  go_ret
  exact ⟨rfl, rfl⟩
theorem acts_c (w : World) : Calls Tryz.prog 166 #[] w fun e w' => e = .returned (.slice (some ⟨w.heap.size, 0, none⟩) 3 3) ∧ w' = wdN w [w_restrict, w_cascade, w_setnull] := by
  go_enter Tryz.func166, Tryz.ntmps166
  go_wp2
  go_ret
  exact ⟨rfl, rfl⟩
theorem fns_c (w : World) : Calls Tryz.prog 168 #[] w fun e w' => e = .returned (.slice (some ⟨w.heap.size, 0, none⟩) 4 4) ∧ w' = wdN w [w_count, w_sum, w_min, w_max] := by
  go_enter Tryz.func168, Tryz.ntmps168
  go_wp2
  go_ret
  exact ⟨rfl, rfl⟩
/-- Block C holds a column. -/
def BkC (w : World) (C : Nat) (c : Cl) : Prop := Bk w C #[.string c.name, .int .i64 c.kind, .bool c.nul, .bool c.uni, .string c.ref, .int .i64 c.act] 64
theorem BkC.all {w : World} {C : Nat} {c : Cl} (h : BkC w C c) : w.cell? ⟨C, 0, none⟩ = some (.string c.name) ∧ w.cell? ⟨C, 1, none⟩ = some (.int .i64 c.kind) ∧ w.cell? ⟨C, 2, none⟩ = some (.bool c.nul) ∧ w.cell? ⟨C, 3, none⟩ = some (.bool c.uni) ∧ w.cell? ⟨C, 4, none⟩ = some (.string c.ref) ∧ w.cell? ⟨C, 5, none⟩ = some (.int .i64 c.act) ∧
    w.frozen? ⟨C, 0, none⟩ = false ∧ w.frozen? ⟨C, 1, none⟩ = false ∧ w.frozen? ⟨C, 2, none⟩ = false ∧ w.frozen? ⟨C, 3, none⟩ = false ∧ w.frozen? ⟨C, 4, none⟩ = false ∧ w.frozen? ⟨C, 5, none⟩ = false ∧ C < w.heap.size :=
  ⟨Bk.cell h 0, Bk.cell h 1, Bk.cell h 2, Bk.cell h 3, Bk.cell h 4, Bk.cell h 5, Bk.thaw h 0, Bk.thaw h 1, Bk.thaw h 2, Bk.thaw h 3, Bk.thaw h 4, Bk.thaw h 5, Bk.lt h⟩
/-- A function whose one result is a column, at its return. -/
theorem ret_cl {fn : Func} {R : Ending → World → Prop} {F : Act} {w : World} {t : Tmp} {b : Nat} {a : Cl} (hres : fn.results = #[.cell t 64]) (ht : Reg.slot F t = .pointer (some ⟨b, 0, none⟩)) (hb : BkC w b a) (hd : F.defers = [])
    (hR : R (.returned a.w) w) : bodyPost Tryz.prog fn R .ret F w := by
  obtain ⟨h0, h1, h2, h3, h4, h5, _⟩ := hb.all
  refine bodyPost_ret (v := a.w) ?_ hd hR
  have ht' : F.tmps[t]?.getD undef = .pointer (some ⟨b, 0, none⟩) := by simpa [Reg.slot] using ht
  simp [results, hres, ht', go_sem, h0, h1, h2, h3, h4, h5]
theorem one_bd {ws : List (List UInt8)} {l r : List Tk} {k : Int} (h : oneP ws l = some (k, r)) : 0 ≤ k ∧ k < ws.length := by
  cases l with
  | nil => cases h
  | cons t q =>
    rw [oneP] at h
    cases e : oneF ws 0 t with
    | none => rw [e] at h; cases h
    | some i =>
      rw [e] at h
      simp at h
      have := oneF_pos ws 0 i e
      omega
def cl0 : Cl := ⟨emp, 0, false, false, emp, 0⟩
/-- What a column tells. -/
def ColumnS (b : Nat) (w : World) (o : Option (Cl × List Tk)) (e : Ending) (w' : World) : Prop := match o with
  | none => e = .panicked (boom 70) ∧ Apb b w w'
  | some q => e = .returned q.1.w ∧ Rq w' b q.2 ∧ Apb b w w'
set_option maxHeartbeats 8000000 in
theorem column_cR (b : Nat) (l : List Tk) (w : World) (hR : Rq w b l) :
    Calls Tryz.prog 145 #[.pointer (some ⟨b, 0, none⟩)] w fun e w' => ColumnS b w (columnP l) e w' := by
  have hbs := hR.lt
  obtain ⟨S, hS⟩ : ∃ S, ColumnS b w (columnP l) = S := ⟨_, rfl⟩
  rw [hS]
  unfold columnP at hS
  have HS := Lib.hid hS
  have HN := Lib.hid (name_cR b l _ (hR.alloc (.cells (rdCl cl0).toArray 64)))
  have HB0 : Hid (BkC (w.alloc (.cells (rdCl cl0).toArray 64)) w.heap.size cl0) := Lib.hid (Bk.new w _ _)
  clear hR hS
  go_enter Tryz.func145, Tryz.ntmps145
  go_wp2_with fail
  refine HN.out.mono ?_
  rintro e w1 hn
  cases hq : nameP l with
  | none =>
    rw [hq] at hn HS
    obtain ⟨rfl, hb⟩ := hn
    refine ⟨rfl, ?_⟩
    rw [← HS.out]
    exact ⟨rfl, hb.of_alloc⟩
  | some a =>
    rw [hq] at hn HS
    obtain ⟨rfl, hr, hb⟩ := hn
    obtain ⟨nm, r⟩ := a
    have HB1 := Lib.hid (Bk.kept HB0.out hb (by omega))
    have Hb1 := Lib.hid hb.of_alloc
    have Hr1 := Lib.hid hr
    clear hq hr hb HN HB0
    go_wp2_with fail
    refine (kinds_c w1).mono ?_
    rintro e w2 ⟨rfl, rfl⟩
    go_wp2_with fail
    refine (choiceN_c b w1.heap.size r [w_bool, w_int, w_text] (by decide) (by decide) (by decide) w1 rfl Hr1.out).mono ?_
    rintro e w2 hn
    cases hq : oneP [w_bool, w_int, w_text] r with
    | none =>
      simp only [Option.bind_some, hq, Option.bind_none] at HS
      rw [hq] at hn
      obtain ⟨rfl, hb⟩ := hn
      refine ⟨rfl, ?_⟩
      rw [← HS.out]
      exact ⟨rfl, Hb1.out.trans hb⟩
    | some kq =>
      obtain ⟨k, r2⟩ := kq
      simp only [Option.bind_some, hq] at HS
      rw [hq] at hn
      obtain ⟨rfl, hr, hb⟩ := hn
      have HB2 := Lib.hid (Bk.kept HB1.out hb (by omega))
      have Hb2 := Lib.hid (Hb1.out.trans hb)
      have Hr2 := Lib.hid hr
      have hk := one_bd hq
      have hk1 := hk.1
      have hk2 : k < 3 := by have := hk.2; simpa using this
      clear hq hr hb HB1 Hb1 Hr1 hk
      go_wp2_with fail
      have hsz2 : w.heap.size < w2.heap.size := HB2.out.lt
      have hbl := Hr2.out.lt
      have HC3 : Hid (BkC (w2.alloc (.cells #[.string nm, .int .i64 (1 + k), .bool false, .bool false, .string emp, .int .i64 0] 64)) w2.heap.size ⟨nm, 1 + k, false, false, emp, 0⟩) := Lib.hid (Bk.new _ _ _)
      have HB3 := Lib.hid (HB2.out.after (below_one w2 (.cells #[.string nm, .int .i64 (1 + k), .bool false, .bool false, .string emp, .int .i64 0] 64)) hsz2)
      have Hr3 := Lib.hid (Hr2.out.alloc (.cells #[.string nm, .int .i64 (1 + k), .bool false, .bool false, .string emp, .int .i64 0] 64))
      have Hb3 := Lib.hid (Hb2.out.alloc (.cells #[.string nm, .int .i64 (1 + k), .bool false, .bool false, .string emp, .int .i64 0] 64))
      obtain ⟨C, hC⟩ : ∃ C, w2.heap.size = C := ⟨_, rfl⟩
      have hz3 : (w2.alloc (.cells #[.string nm, .int .i64 (1 + k), .bool false, .bool false, .string emp, .int .i64 0] 64)).heap.size = C + 1 := by simp; exact hC
      obtain ⟨W3, hW3⟩ : ∃ W3, w2.alloc (.cells #[.string nm, .int .i64 (1 + k), .bool false, .bool false, .string emp, .int .i64 0] 64) = W3 := ⟨_, rfl⟩
      rw [hW3] at HC3 HB3 Hr3 Hb3 hz3
      rw [hC] at HC3 hsz2 hbl
      have HW3 := Lib.hid hW3
      have HCe := Lib.hid hC
      have Hz3 := Lib.hid hz3
      clear HB2 Hr2 Hb2 hW3 hz3
      rw [HW3.out, hC]
      clear hC
      refine (has1_c b (C + 1) _ w_null (by decide) W3 Hz3.out Hr3.out).mono ?_
      rintro e w4 ⟨rfl, hr, hb⟩
      obtain ⟨nu, hnu⟩ : ∃ nu, (takeP w_null r2).1 = nu := ⟨_, rfl⟩
      obtain ⟨l4, hl4⟩ : ∃ l4, (takeP w_null r2).2 = l4 := ⟨_, rfl⟩
      rw [hnu, hl4] at HS
      simp only [hnu, hl4] at hr ⊢
      have HC4 : Hid (BkC w4 C _) := Lib.hid (Bk.kept HC3.out hb (by omega))
      have HB4 := Lib.hid (HB3.out.kept hb (by omega))
      have Hr4 := Lib.hid hr
      have Hb4 := Lib.hid (Hb3.out.trans hb)
      obtain ⟨c0, c1, c2, c3, c4, c5, f0, f1, f2, f3, f4, f5, hlt⟩ := HC4.out.all
      clear hr hb hnu hl4 HC3 HB3 Hr3 Hb3 HW3 HCe Hz3
      go_wp2_with fail
      have hz5 : (w4.setCell ⟨C, 2, none⟩ (.bool nu)).heap.size = w4.heap.size := by simp [World.setCell]
      refine (has1_c b w4.heap.size l4 w_unique (by decide) _ hz5 (Hr4.out.own hbl 2 (.bool nu))).mono ?_
      rintro e w5 ⟨rfl, hr, hb⟩
      obtain ⟨un, hun⟩ : ∃ un, (takeP w_unique l4).1 = un := ⟨_, rfl⟩
      obtain ⟨l5, hl5⟩ : ∃ l5, (takeP w_unique l4).2 = l5 := ⟨_, rfl⟩
      rw [hun, hl5] at HS
      simp only [hun, hl5] at hr ⊢
      have HC5 : Hid (BkC w5 C ⟨nm, 1 + k, nu, false, emp, 0⟩) := Lib.hid (Bk.kept (Bk.set HC4.out 2 (.bool nu)) hb (by omega))
      have HB5 := Lib.hid ((HB4.out.after (B := C) (Below.setCell (Below.refl C w4) (Nat.le_refl C) _) hsz2).kept hb (by omega))
      have Hr5 := Lib.hid hr
      have Hb5 := Lib.hid ((Hb4.out.own (by omega) 2 (.bool nu)).trans hb)
      clear c0 c1 c2 c3 c4 c5 f0 f1 f2 f3 f4 f5 hlt
      obtain ⟨c0, c1, c2, c3, c4, c5, f0, f1, f2, f3, f4, f5, hlt⟩ := HC5.out.all
      clear hr hb hun hl5 HC4 HB4 Hr4 Hb4 hz5
      go_wp2_with fail
      have hz6 : (w5.setCell ⟨C, 3, none⟩ (.bool un)).heap.size = w5.heap.size := by simp [World.setCell]
      refine (has1_c b w5.heap.size l5 w_ref (by decide) _ hz6 (Hr5.out.own hbl 3 (.bool un))).mono ?_
      rintro e w6 ⟨rfl, hr, hb⟩
      have HC6 : Hid (BkC w6 C ⟨nm, 1 + k, nu, un, emp, 0⟩) := Lib.hid (Bk.kept (Bk.set HC5.out 3 (.bool un)) hb (by omega))
      have HB6 := Lib.hid ((HB5.out.after (B := C) (Below.setCell (Below.refl C w5) (Nat.le_refl C) _) hsz2).kept hb (by omega))
      have Hb6 := Lib.hid ((Hb5.out.own (by omega) 3 (.bool un)).trans hb)
      clear c0 c1 c2 c3 c4 c5 f0 f1 f2 f3 f4 f5 hlt
      cases hq : (takeP w_ref l5).1
      · rw [hq] at HS
        rw [take_no hq] at hr
        simp only [Bool.false_eq_true, if_false] at HS
        have Hr6 := Lib.hid hr
        obtain ⟨c0, c1, c2, c3, c4, c5, f0, f1, f2, f3, f4, f5, hlt⟩ := HC6.out.all
        obtain ⟨r0, r1, r2', r3, r4, r5, g0, g1, g2, g3, g4, g5, hlt2⟩ := BkC.all (c := cl0) HB6.out
        clear hr hb hq HC5 HB5 Hr5 Hb5 hz6
        go_wp2
        refine ret_cl (b := w.heap.size) (a := ⟨nm, 1 + k, nu, un, emp, 0⟩) Tryz.results145 rfl (Bk.put HB6.out (rdCl ⟨nm, 1 + k, nu, un, emp, 0⟩) rfl) rfl ?_
        rw [← HS.out, show k + 1 = 1 + k by omega]
        exact ⟨rfl, Hr6.out.put (by omega) 0 (rdCl ⟨nm, 1 + k, nu, un, emp, 0⟩), Hb6.out.put (Nat.le_refl _) 0 (rdCl ⟨nm, 1 + k, nu, un, emp, 0⟩)⟩
      · rw [hq] at HS
        simp only [if_true] at HS
        obtain ⟨l6, hl6⟩ : ∃ l6, (takeP w_ref l5).2 = l6 := ⟨_, rfl⟩
        rw [hl6] at HS hr
        have Hr6 := Lib.hid hr
        obtain ⟨c0, c1, c2, c3, c4, c5, f0, f1, f2, f3, f4, f5, hlt⟩ := HC6.out.all
        clear hr hb hq HC5 HB5 Hr5 Hb5 hz6 hl6
        go_wp2_with fail
        refine (name_cR b l6 w6 Hr6.out).mono ?_
        rintro e w7 hn
        cases hq : nameP l6 with
        | none =>
          rw [hq] at hn HS
          obtain ⟨rfl, hb⟩ := hn
          refine ⟨rfl, ?_⟩
          rw [← HS.out]
          exact ⟨rfl, Hb6.out.trans hb⟩
        | some a =>
          rw [hq] at hn HS
          obtain ⟨rfl, hr, hb⟩ := hn
          obtain ⟨rf, l7⟩ := a
          have HC7 : Hid (BkC w7 C ⟨nm, 1 + k, nu, un, emp, 0⟩) := Lib.hid (Bk.kept HC6.out hb (by omega))
          have HB7 := Lib.hid (HB6.out.kept hb (by omega))
          have Hb7 := Lib.hid (Hb6.out.trans hb)
          have Hr7 := Lib.hid hr
          clear c0 c1 c2 c3 c4 c5 f0 f1 f2 f3 f4 f5 hlt
          obtain ⟨c0, c1, c2, c3, c4, c5, f0, f1, f2, f3, f4, f5, hlt⟩ := HC7.out.all
          clear hr hb hq HC6 HB6 Hr6 Hb6
          go_wp2_with fail
          refine (acts_c _).mono ?_
          rintro e w8 ⟨rfl, rfl⟩
          have hz7 : (w7.setCell ⟨C, 4, none⟩ (.string rf)).heap.size = w7.heap.size := by simp [World.setCell]
          rw [hz7]
          go_wp2_with fail
          refine (choiceN_c b w7.heap.size l7 [w_restrict, w_cascade, w_setnull] (by decide) (by decide) (by decide) _ hz7 (Hr7.out.own hbl 4 (.string rf))).mono ?_
          rintro e w8 hn
          cases hq : oneP [w_restrict, w_cascade, w_setnull] l7 with
          | none =>
            simp only [Option.bind_some, hq, Option.map_none] at HS
            rw [hq] at hn
            obtain ⟨rfl, hb⟩ := hn
            refine ⟨rfl, ?_⟩
            rw [← HS.out]
            exact ⟨rfl, (Hb7.out.own (by omega) 4 (.string rf)).trans hb⟩
          | some kq =>
            obtain ⟨ac, l8⟩ := kq
            simp only [Option.bind_some, hq, Option.map_some] at HS
            rw [hq] at hn
            obtain ⟨rfl, hr, hb⟩ := hn
            have HC8 : Hid (BkC w8 C ⟨nm, 1 + k, nu, un, rf, 0⟩) := Lib.hid (Bk.kept (Bk.set HC7.out 4 (.string rf)) hb (by omega))
            have HB8 := Lib.hid ((HB7.out.after (B := C) (Below.setCell (Below.refl C w7) (Nat.le_refl C) _) hsz2).kept hb (by omega))
            have Hb8 := Lib.hid ((Hb7.out.own (by omega) 4 (.string rf)).trans hb)
            have Hr8 := Lib.hid hr
            clear c0 c1 c2 c3 c4 c5 f0 f1 f2 f3 f4 f5 hlt
            obtain ⟨c0, c1, c2, c3, c4, c5, f0, f1, f2, f3, f4, f5, hlt⟩ := HC8.out.all
            obtain ⟨r0, r1, r2', r3, r4, r5, g0, g1, g2, g3, g4, g5, hlt2⟩ := BkC.all (c := cl0) HB8.out
            have hne : ¬ w.heap.size = C := by omega
            have hne2 : ¬ C = w.heap.size := by omega
            clear hr hb hq HC7 HB7 Hr7 Hb7 hz7
            go_wp2
            refine ret_cl (b := w.heap.size) (a := ⟨nm, 1 + k, nu, un, rf, ac⟩) Tryz.results145 rfl ?_ rfl ?_
            · exact Bk.put (HB8.out.after (B := C) (Below.setCell (Below.refl C w8) (Nat.le_refl C) _) hsz2) (rdCl ⟨nm, 1 + k, nu, un, rf, ac⟩) rfl
            · rw [← HS.out, show k + 1 = 1 + k by omega]
              exact ⟨rfl, (Hr8.out.own hbl 5 (.int .i64 ac)).put (by omega) 0 (rdCl ⟨nm, 1 + k, nu, un, rf, ac⟩), (Hb8.out.own (by omega) 5 (.int .i64 ac)).put (Nat.le_refl _) 0 (rdCl ⟨nm, 1 + k, nu, un, rf, ac⟩)⟩
end Go.Proofs.YtjgpmnffagdhlaaGreatDoor
namespace Go.Proofs.YtjgpmnffagdhlaaGreatDoor
open Go Go.RowKit
set_option maxRecDepth 100000
def onP (l : List Tk) : Option ((Int × Int) × List Tk) := (needP w_on l).bind fun r => (colP r).bind fun x => (needP s_eq x.2).bind fun q => (colP q).map fun y => ((x.1, y.1), y.2)
/-- A function whose one result is two numbers, at its return. -/
theorem ret_on {fn : Func} {R : Ending → World → Prop} {F : Act} {w : World} {t : Tmp} {b : Nat} {x y : Int} (hres : fn.results = #[.cell t 26]) (ht : Reg.slot F t = .pointer (some ⟨b, 0, none⟩)) (hb : Bk w b #[.int .i64 x, .int .i64 y] 26) (hd : F.defers = [])
    (hR : R (.returned (.agg #[.int .i64 x, .int .i64 y])) w) : bodyPost Tryz.prog fn R .ret F w := by
  have h0 : w.cell? ⟨b, 0, none⟩ = some (.int .i64 x) := hb.cell 0
  have h1 : w.cell? ⟨b, 1, none⟩ = some (.int .i64 y) := hb.cell 1
  refine bodyPost_ret (v := .agg #[.int .i64 x, .int .i64 y]) ?_ hd hR
  have ht' : F.tmps[t]?.getD undef = .pointer (some ⟨b, 0, none⟩) := by simpa [Reg.slot] using ht
  simp [results, hres, ht', go_sem, h0, h1]
def OnS (b : Nat) (w : World) (o : Option ((Int × Int) × List Tk)) (e : Ending) (w' : World) : Prop := match o with
  | none => e = .panicked (boom 70) ∧ Apb b w w'
  | some q => e = .returned (.agg #[.int .i64 q.1.1, .int .i64 q.1.2]) ∧ Rq w' b q.2 ∧ Apb b w w'
set_option maxHeartbeats 8000000 in
theorem on_cR (b : Nat) (l : List Tk) (w : World) (hR : Rq w b l) :
    Calls Tryz.prog 148 #[.pointer (some ⟨b, 0, none⟩)] w fun e w' => OnS b w (onP l) e w' := by
  have hbs := hR.lt
  obtain ⟨S, hS⟩ : ∃ S, OnS b w (onP l) = S := ⟨_, rfl⟩
  rw [hS]
  unfold onP at hS
  have HS := Lib.hid hS
  have hN : (w.alloc (.cells #[.int .i64 0, .int .i64 0] 26)).heap.size = w.heap.size + 1 := by simp
  have HM := Lib.hid (must1_c b (w.heap.size + 1) l w_on (by decide) _ hN (hR.alloc (.cells #[.int .i64 0, .int .i64 0] 26)))
  have HB0 := Lib.hid (Bk.new w #[.int .i64 0, .int .i64 0] 26)
  clear hR hS hN
  go_enter Tryz.func148, Tryz.ntmps148
  go_wp2_with fail
  refine HM.out.mono ?_
  rintro e w1 hn
  cases hq : needP w_on l with
  | none =>
    rw [hq] at hn HS
    obtain ⟨rfl, hb⟩ := hn
    refine ⟨rfl, ?_⟩
    rw [← HS.out]
    exact ⟨rfl, hb.of_alloc⟩
  | some r =>
    rw [hq] at hn HS
    simp only [Option.bind_some] at HS
    obtain ⟨rfl, hr, hb⟩ := hn
    have HB1 := Lib.hid (HB0.out.kept hb (by omega))
    have Hb1 := Lib.hid hb.of_alloc
    have Hr1 := Lib.hid hr
    clear hq hr hb HM HB0
    go_wp2_with fail
    refine (col_cR b r w1 Hr1.out).mono ?_
    rintro e w2 hn
    cases hq : colP r with
    | none =>
      rw [hq] at hn HS
      obtain ⟨rfl, hb⟩ := hn
      refine ⟨rfl, ?_⟩
      rw [← HS.out]
      exact ⟨rfl, Hb1.out.trans hb⟩
    | some x =>
      obtain ⟨x, r2⟩ := x
      rw [hq] at hn HS
      simp only [Option.bind_some] at HS
      obtain ⟨rfl, hr, hb⟩ := hn
      have HB2 := Lib.hid (HB1.out.kept hb (by omega))
      have Hb2 := Lib.hid (Hb1.out.trans hb)
      have Hr2 := Lib.hid hr
      clear hq hr hb Hb1 Hr1 HB1
      go_wp2_with fail
      refine (must1_c b w2.heap.size r2 s_eq (by decide) w2 rfl Hr2.out).mono ?_
      rintro e w3 hn
      cases hq : needP s_eq r2 with
      | none =>
        rw [hq] at hn HS
        obtain ⟨rfl, hb⟩ := hn
        refine ⟨rfl, ?_⟩
        rw [← HS.out]
        exact ⟨rfl, Hb2.out.trans hb⟩
      | some r3 =>
        rw [hq] at hn HS
        simp only [Option.bind_some] at HS
        obtain ⟨rfl, hr, hb⟩ := hn
        have HB3 := Lib.hid (HB2.out.kept hb (by omega))
        have Hb3 := Lib.hid (Hb2.out.trans hb)
        have Hr3 := Lib.hid hr
        clear hq hr hb Hb2 Hr2 HB2
        go_wp2_with fail
        refine (col_cR b r3 w3 Hr3.out).mono ?_
        rintro e w4 hn
        cases hq : colP r3 with
        | none =>
          rw [hq] at hn HS
          obtain ⟨rfl, hb⟩ := hn
          refine ⟨rfl, ?_⟩
          rw [← HS.out]
          exact ⟨rfl, Hb3.out.trans hb⟩
        | some y =>
          obtain ⟨y, r4⟩ := y
          rw [hq] at hn HS
          obtain ⟨rfl, hr, hb⟩ := hn
          have HB4 := Lib.hid (HB3.out.kept hb (by omega))
          have Hb4 := Lib.hid (Hb3.out.trans hb)
          have Hr4 := Lib.hid hr
          have c0 : w4.cell? ⟨w.heap.size, 0, none⟩ = some (.int .i64 0) := HB4.out.cell 0
          have c1 : w4.cell? ⟨w.heap.size, 1, none⟩ = some (.int .i64 0) := HB4.out.cell 1
          have f0 := HB4.out.thaw 0
          have f1 := HB4.out.thaw 1
          clear hq hr hb Hb3 Hr3 HB3
          go_wp2
          refine ret_on (b := w.heap.size) (x := x) (y := y) Tryz.results148 rfl (HB4.out.put [.int .i64 x, .int .i64 y] rfl) rfl ?_
          rw [← HS.out]
          exact ⟨rfl, Hr4.out.put (by omega) 0 [.int .i64 x, .int .i64 y], Hb4.out.put (Nat.le_refl _) 0 [.int .i64 x, .int .i64 y]⟩
/-- A function whose one result is an aggregate, at its return. -/
theorem ret_ag {fn : Func} {R : Ending → World → Prop} {F : Act} {w : World} {t : Tmp} {b : Nat} {a : Ag} (hres : fn.results = #[.cell t 74]) (ht : Reg.slot F t = .pointer (some ⟨b, 0, none⟩)) (hb : Bk w b #[.int .i64 a.fn, .int .i64 a.col] 74) (hd : F.defers = [])
    (hR : R (.returned a.w) w) : bodyPost Tryz.prog fn R .ret F w := by
  have h0 : w.cell? ⟨b, 0, none⟩ = some (.int .i64 a.fn) := hb.cell 0
  have h1 : w.cell? ⟨b, 1, none⟩ = some (.int .i64 a.col) := hb.cell 1
  refine bodyPost_ret (v := a.w) ?_ hd hR
  have ht' : F.tmps[t]?.getD undef = .pointer (some ⟨b, 0, none⟩) := by simpa [Reg.slot] using ht
  simp [results, hres, ht', go_sem, h0, h1]
def AggS (b : Nat) (w : World) (o : Option (Ag × List Tk)) (e : Ending) (w' : World) : Prop := match o with
  | none => e = .panicked (boom 70) ∧ Apb b w w'
  | some q => e = .returned q.1.w ∧ Rq w' b q.2 ∧ Apb b w w'
set_option maxHeartbeats 8000000 in
theorem agg_cR (b : Nat) (l : List Tk) (w : World) (hR : Rq w b l) :
    Calls Tryz.prog 153 #[.pointer (some ⟨b, 0, none⟩)] w fun e w' => AggS b w (aggP l) e w' := by
  have hbs := hR.lt
  obtain ⟨S, hS⟩ : ∃ S, AggS b w (aggP l) = S := ⟨_, rfl⟩
  rw [hS]
  unfold aggP at hS
  have HS := Lib.hid hS
  have hN : (w.alloc (.cells #[.int .i64 0, .int .i64 0] 74)).heap.size = w.heap.size + 1 := by simp
  have HM := Lib.hid (choiceN_c b (w.heap.size + 1) l [w_count, w_sum, w_min, w_max] (by decide) (by decide) (by decide) _ hN (hR.alloc (.cells #[.int .i64 0, .int .i64 0] 74)))
  have HB0 := Lib.hid (Bk.new w #[.int .i64 0, .int .i64 0] 74)
  clear hR hS hN
  go_enter Tryz.func153, Tryz.ntmps153
  go_wp2_with fail
  refine (fns_c _).mono ?_
  rintro e w0 ⟨rfl, rfl⟩
  go_wp2_with fail
  refine HM.out.mono ?_
  rintro e w1 hn
  cases hq : oneP [w_count, w_sum, w_min, w_max] l with
  | none =>
    rw [hq] at hn HS
    obtain ⟨rfl, hb⟩ := hn
    refine ⟨rfl, ?_⟩
    rw [← HS.out]
    exact ⟨rfl, hb.of_alloc⟩
  | some k =>
    obtain ⟨k, r⟩ := k
    have hk := one_bd hq
    rw [hq] at hn HS
    simp only [Option.bind_some] at HS
    obtain ⟨rfl, hr, hb⟩ := hn
    have HB1 := Lib.hid (HB0.out.kept hb (by omega))
    have Hb1 := Lib.hid hb.of_alloc
    have Hr1 := Lib.hid hr
    have hlt := HB1.out.lt
    clear hq hr hb HM HB0
    have c0 : w1.cell? ⟨w.heap.size, 0, none⟩ = some (.int .i64 0) := HB1.out.cell 0
    have c1 : w1.cell? ⟨w.heap.size, 1, none⟩ = some (.int .i64 0) := HB1.out.cell 1
    have f0 := HB1.out.thaw 0
    have f1 := HB1.out.thaw 1
    by_cases hk0 : k = 0
    · subst hk0
      simp only [if_true] at HS
      go_wp2
      refine ret_ag (b := w.heap.size) (a := ⟨0, 0⟩) Tryz.results153 rfl ((HB1.out.put [.int .i64 0, .int .i64 0] rfl).after (below_one _ _) (by rw [putL_size]; exact hlt)) rfl ?_
      rw [← HS.out]
      exact ⟨rfl, (Hr1.out.put (by omega) 0 [.int .i64 0, .int .i64 0]).alloc _, (Hb1.out.put (Nat.le_refl _) 0 [.int .i64 0, .int .i64 0]).alloc _⟩
    · rw [if_neg hk0] at HS
      have e1 : (k == 0) = false := by simpa using hk0
      have e2 : (k != 0) = true := by simpa using hk0
      clear hk0
      have HC2 := Lib.hid (Bk.new w1 #[.int .i64 k, .int .i64 0] 74)
      have HB2 := Lib.hid (HB1.out.after (below_one w1 (.cells #[.int .i64 k, .int .i64 0] 74)) hlt)
      go_wp2_with fail
      refine (col_cR b r _ (Hr1.out.alloc (.cells #[.int .i64 k, .int .i64 0] 74))).mono ?_
      rintro e w3 hn
      cases hq : colP r with
      | none =>
        rw [hq] at hn HS
        obtain ⟨rfl, hb⟩ := hn
        refine ⟨rfl, ?_⟩
        rw [← HS.out]
        exact ⟨rfl, (Hb1.out.alloc _).trans hb⟩
      | some x =>
        obtain ⟨x, r2⟩ := x
        rw [hq] at hn HS
        obtain ⟨rfl, hr, hb⟩ := hn
        have HB3 := Lib.hid (HB2.out.kept hb (by omega))
        have HC3 := Lib.hid (HC2.out.kept hb (by omega))
        have Hb3 := Lib.hid ((Hb1.out.alloc (.cells #[.int .i64 k, .int .i64 0] 74)).trans hb)
        have Hr3 := Lib.hid hr
        clear c0 c1 f0 f1 hq hr hb Hb1 Hr1 HB1 HB2 HC2
        have c0 : w3.cell? ⟨w.heap.size, 0, none⟩ = some (.int .i64 0) := HB3.out.cell 0
        have c1 : w3.cell? ⟨w.heap.size, 1, none⟩ = some (.int .i64 0) := HB3.out.cell 1
        have f0 := HB3.out.thaw 0
        have f1 := HB3.out.thaw 1
        have d0 : w3.cell? ⟨w1.heap.size, 0, none⟩ = some (.int .i64 k) := HC3.out.cell 0
        have d1 : w3.cell? ⟨w1.heap.size, 1, none⟩ = some (.int .i64 0) := HC3.out.cell 1
        have g0 := HC3.out.thaw 0
        have g1 := HC3.out.thaw 1
        have l1 := HC3.out.lt
        have l2 := HB3.out.lt
        have hne : ¬ w.heap.size = w1.heap.size := by omega
        have hne2 : ¬ w1.heap.size = w.heap.size := by omega
        go_wp2
        refine ret_ag (b := w.heap.size) (a := ⟨k, x⟩) Tryz.results153 rfl ?_ rfl ?_
        · exact Bk.put (HB3.out.after (B := w1.heap.size) (Below.setCell (Below.refl w1.heap.size w3) (Nat.le_refl _) _) hlt) [.int .i64 k, .int .i64 x] rfl
        · rw [← HS.out]
          exact ⟨rfl, (Hr3.out.own (by omega) 1 (.int .i64 x)).put (by omega) 0 [.int .i64 k, .int .i64 x], (Hb3.out.own (by omega) 1 (.int .i64 x)).put (Nat.le_refl _) 0 [.int .i64 k, .int .i64 x]⟩
end Go.Proofs.YtjgpmnffagdhlaaGreatDoor
namespace Go.Proofs.YtjgpmnffagdhlaaGreatDoor
open Go Go.RowKit
set_option maxRecDepth 100000
/-- What a call that reads one tells. -/
def ItemS {α : Type} (I : World → List Tk → List α → Prop) (J : World → Prop) (acc : List α) (o : Option (α × List Tk)) (e : Ending) (w' : World) : Prop := match o with
  | none => e = .panicked (boom 70) ∧ J w'
  | some q => e = .returned (.tuple #[]) ∧ I w' q.2 (acc ++ [q.1])
def ListS {α : Type} (I : World → List Tk → List α → Prop) (J : World → Prop) (acc : List α) (o : Option (List α × List Tk)) (e : Ending) (w' : World) : Prop := match o with
  | none => e = .panicked (boom 70) ∧ J w'
  | some q => e = .returned (.tuple #[]) ∧ I w' q.2 (acc ++ q.1)
set_option maxHeartbeats 8000000 in
theorem list_cR {α : Type} (p : List Tk → Option (α × List Tk)) (hp : ∀ l a, p l = some a → a.2.length ≤ l.length) (I : World → List Tk → List α → Prop) (J : World → Prop) (b : Nat) (F : Nat) (caps : Array Value)
    (hI : ∀ w l acc, I w l acc → Rq w b l) (hK : ∀ w w' l l' acc, I w l acc → Rq w' b l' → Apb b w w' → l'.length ≤ l.length → I w' l' acc)
    (hit : ∀ w l acc, I w l acc → Calls Tryz.prog F caps w fun e w' => ItemS I J acc (p l) e w')
    (hF : ∀ w, (callFunc F caps).run Tryz.prog w = .ok (.enter F caps) w) (l : List Tk) (acc : List α) (w : World) (hw : I w l acc) :
    Calls Tryz.prog 143 #[.pointer (some ⟨b, 0, none⟩), .func (.func F) #[] caps] w fun e w' => ListS I J acc (sepP p l) e w' := by
  obtain ⟨S, hS⟩ : ∃ S, ListS I J acc (sepP p l) = S := ⟨_, rfl⟩
  rw [hS]
  rw [sepP_eq hp] at hS
  have HS := Lib.hid hS
  have HI := Lib.hid hI
  have HK := Lib.hid hK
  have Hit := Lib.hid hit
  have Hw := Lib.hid hw
  have Hp := Lib.hid hp
  clear hS hI hK hit hw hp
  go_enter Tryz.func143, Tryz.ntmps143
  go_wp2_with fail
  refine (Hit.out w l acc Hw.out).mono ?_
  rintro e w1 hn
  cases hq : p l with
  | none =>
    rw [hq] at hn HS
    obtain ⟨rfl, hj⟩ := hn
    refine ⟨rfl, ?_⟩
    rw [← HS.out]
    exact ⟨rfl, hj⟩
  | some a =>
    obtain ⟨a, r⟩ := a
    rw [hq] at hn HS
    simp only [Option.bind_some] at HS
    obtain ⟨rfl, hi⟩ := hn
    have Hi := Lib.hid hi
    clear hi hq
    go_wp2_with fail
    go_loopw [8] (fun _ wr => ∃ (xs : List α) (rest : List Tk), Hid (I wr rest (acc ++ xs)) ∧ Hid (∀ o, tailG p rest = o → S = ListS I J acc (o.map fun q => (xs ++ q.1, q.2)))) (fun _ wr => rqLen wr b)
    case atStart => exact ⟨[a], r, Hi, Lib.hid (fun o ho => by rw [← HS.out, ho]; rfl)⟩
    case round =>
      obtain ⟨xs, rest, hi, hs⟩ := hrel
      have hr := HI.out _ _ _ hi.out
      have HH := Lib.hid (has1_c b wr.heap.size rest s_cm (by decide) wr rfl hr)
      have HL := Lib.hid hr.left
      clear hr
      cases hq : (takeP s_cm rest).1
      · rw [hq] at HH
        have hS := hs.out (some ([], rest)) (by unfold tailG; rw [hq]; rfl)
        have HSS := Lib.hid hS
        rw [take_no hq] at HH
        clear hS hs hq
        go_wp2_with fail
        refine HH.out.mono ?_
        rintro e w2 ⟨rfl, hr2, hb2⟩
        have Hi2 := Lib.hid (HK.out _ _ _ _ _ hi.out hr2 hb2 (Nat.le_refl _))
        clear hr2 hb2 HH
        go_wp2
        go_end0
        rw [HSS.out]
        refine ⟨rfl, ?_⟩
        show I w2 rest (acc ++ (xs ++ []))
        rw [List.append_nil]
        exact Hi2.out
      · rw [hq] at HH
        obtain ⟨l2, hl2⟩ : ∃ l2, (takeP s_cm rest).2 = l2 := ⟨_, rfl⟩
        have hlt2 : l2.length < rest.length := by rw [← hl2]; exact (take_len s_cm rest).2 hq
        have hS : ∀ o, sepP p l2 = o → S = ListS I J acc (o.map fun q => (xs ++ q.1, q.2)) := fun o ho => hs.out o (by unfold tailG; rw [hq, hl2]; exact ho)
        have HSS := Lib.hid hS
        have Hlt2 := Lib.hid hlt2
        rw [hl2] at HH
        clear hS hs hq hl2 hlt2
        go_wp2_with fail
        refine HH.out.mono ?_
        rintro e w2 ⟨rfl, hr2, hb2⟩
        have Hi2 := Lib.hid (HK.out _ _ _ _ _ hi.out hr2 hb2 (Nat.le_of_lt Hlt2.out))
        clear hr2 hb2 HH
        go_wp2_with fail
        refine (Hit.out w2 l2 (acc ++ xs) Hi2.out).mono ?_
        rintro e w3 hn
        cases hq : p l2 with
        | none =>
          rw [hq] at hn
          obtain ⟨rfl, hj⟩ := hn
          refine ⟨rfl, ?_⟩
          rw [HSS.out none (by rw [sepP_eq Hp.out, hq]; rfl)]
          exact ⟨rfl, hj⟩
        | some a2 =>
          rw [hq] at hn
          obtain ⟨rfl, hi3⟩ := hn
          obtain ⟨a2, r3⟩ := a2
          have hle := Hp.out l2 _ hq
          have Hle := Lib.hid hle
          have Hi3 := Lib.hid hi3
          have hS3 : ∀ o, tailG p r3 = o → S = ListS I J acc (o.map fun q => ((xs ++ [a2]) ++ q.1, q.2)) := fun o ho => by
            rw [HSS.out (o.map fun q => (a2 :: q.1, q.2)) (by rw [sepP_eq Hp.out, hq, Option.bind_some, ho])]
            cases o with
            | none => rfl
            | some q => simp
          have HS3 := Lib.hid hS3
          clear hq hi3 hle hS3 HSS
          go_wp2_with fail
          go_roundw
          case rel =>
            refine ⟨xs ++ [a2], r3, ?_, HS3⟩
            rw [← List.append_assoc]
            exact Hi3
          case measure =>
            have h1 := (HI.out _ _ _ Hi3.out).left
            have h2 := HL.out
            have h3 := Hlt2.out
            have h4 : r3.length ≤ l2.length := Hle.out
            omega
end Go.Proofs.YtjgpmnffagdhlaaGreatDoor
namespace Go.Proofs.YtjgpmnffagdhlaaGreatDoor
open Go Go.RowKit
set_option maxRecDepth 100000
theorem cOk7 : ElOk Tryz.prog 22 64 6 56 cl0.w rdCl where
  under := Tryz.underlying22
  info := by kernel_rfl
  zs := rfl
  pos := by decide
  len := fun _ => rfl
  one := fun x u hu => by
    simp [rdCl] at hu
    rcases hu with rfl | rfl | rfl | rfl | rfl | rfl <;> rfl
/-- A call of a function that may panic, as one step of a region that draws. -/
theorem step_callO {P : Program} {ops : Array Oper} {o : Oper} {a : Act} {w : World} {K : Act → World → Prop} {Q : Exit → Act → World → Prop} {F : Prop} (hgd : o.guard = none) (f : FuncId) (args : Array Value) (hrun : (execOp a.eval o).run P w = .ok (.enter f args) w)
    (v : Value) (R : World → Prop) (hc : Calls P f args w fun e w' => (e = .returned v ∧ R w') ∨ (∃ ch, e = .panicked ch ∧ Q (.panic ch) a w')) (h : ∀ w', R w' → K (a.put o.dst v) w') : if Region.wanted o (yielded ops a.tmps) = true then Oper.wp P o a w K Q else F := by
  have hw : Region.wanted o (yielded ops a.tmps) = true := by simp [Region.wanted, hgd]
  rw [if_pos hw]
  unfold Oper.wp
  rw [hrun]
  refine hc.mono ?_
  rintro e w' (⟨rfl, hr⟩ | ⟨ch, rfl, hq⟩)
  · exact h w' hr
  · exact hq
/-- Columns, as they are read into the table in block C; the reader in b, as the box in rb tells. -/
structure CI (b C rb : Nat) (nm : ByteArray) (w0 w : World) (l : List Tk) (acc : List Cl) : Prop where
  rq : Rq w b l
  ap : Apb b w0 w
  sl : ∃ v, Bk w C #[.string nm, v, .slice none 0 0] 25 ∧ OwnG w (C + 1) 64 6 rdCl v acc
  bx : Bk w rb #[.pointer (some ⟨b, 0, none⟩)] 154
  len : acc.length + l.length ≤ 20000
  b0 : b < w0.heap.size
  rb0 : w0.heap.size ≤ C ∧ b ≠ rb
  c0 : rb < C
theorem CI.keep {b C rb : Nat} {nm : ByteArray} {w0 w w' : World} {l l' : List Tk} {acc : List Cl} (h : CI b C rb nm w0 w l acc) (hr : Rq w' b l') (hb : Apb b w w') (hl : l'.length ≤ l.length) : CI b C rb nm w0 w' l' acc := by
  have h1 := h.b0
  have h2 := h.rb0
  have h3 := h.c0
  have h4 := h.len
  obtain ⟨v, hv, ho⟩ := h.sl
  exact ⟨hr, h.ap.trans hb, ⟨v, hv.kept hb (by omega), ho.kept hb (by omega)⟩, h.bx.kept hb (by omega), by omega, h1, h2, h3⟩
set_option maxHeartbeats 8000000 in
theorem col1_c (b C rb : Nat) (nm : ByteArray) (w0 w : World) (l : List Tk) (acc : List Cl) (hi : CI b C rb nm w0 w l acc) :
    Calls Tryz.prog 144 #[.pointer (some ⟨C, 0, none⟩), .pointer (some ⟨rb, 0, none⟩)] w fun e w' => ItemS (CI b C rb nm w0) (Apb b w0) acc (columnP l) e w' := by
  obtain ⟨S, hS⟩ : ∃ S, ItemS (CI b C rb nm w0) (Apb b w0) acc (columnP l) = S := ⟨_, rfl⟩
  rw [hS]
  have HC := Lib.hid (fun u (hu : Rq u b l) => column_cR b l u hu)
  have Hi := Lib.hid hi
  have HS := Lib.hid hS
  obtain ⟨v, hv, ho⟩ := hi.sl
  have HV := Lib.hid hv
  have HO := Lib.hid ho
  have c1 : w.cell? ⟨C, 1, none⟩ = some v := hv.cell 1
  have f1 := hv.thaw 1
  have p0 : w.cell? ⟨rb, 0, none⟩ = some (.pointer (some ⟨b, 0, none⟩)) := hi.bx.cell 0
  have hlC := hv.lt
  have hlr := hi.bx.lt
  have hbC : b < C := by have := hi.b0; have := hi.rb0; have := hi.c0; omega
  have hln := hi.len
  have hw0C : w0.heap.size ≤ C := by have := hi.rb0; have := hi.c0; omega
  obtain ⟨x, hx⟩ : ∃ x : Cl, ((columnP l).map (·.1)).getD cl0 = x := ⟨_, rfl⟩
  have Hx := Lib.hid hx
  clear hi hv ho hS hx
  go_enter Tryz.func144, Tryz.ntmps144
  go_region_law (first
    | (refine step_callO rfl 145 #[.pointer (some ⟨b, 0, none⟩)] (by kernel_rfl) x.w (fun w' => ∃ r, columnP l = some (x, r) ∧ Rq w' b r ∧ Apb b w w') ((HC.out _ Hi.out.rq.drew).mono ?_) ?_
       · intro e w1 hn
         cases hq : columnP l with
         | none =>
           rw [hq] at hn
           refine .inr ⟨_, hn.1, rfl, ?_⟩
           rw [← HS.out, hq]
           exact ⟨rfl, Hi.out.ap.drew.trans hn.2⟩
         | some q =>
           obtain ⟨y, r⟩ := q
           have e := Hx.out
           rw [hq] at hn e
           have e : y = x := e
           subst e
           exact .inl ⟨hn.1, r, rfl, hn.2.1, (Apb.refl b w).drew.trans hn.2.2⟩
       rintro w1 ⟨r, hq1, hr1, hb1⟩
       have Hq1 := Lib.hid hq1
       have Hr1 := Lib.hid hr1
       have Hb1 := Lib.hid hb1
       have HV1 := Lib.hid (HV.out.kept hb1 (by omega))
       have HO1 := Lib.hid (HO.out.kept hb1 (by omega))
       have c1' : w1.cell? ⟨C, 1, none⟩ = some v := HV1.out.cell 1
       have f1' := HV1.out.thaw 1
       have hlC1 := HV1.out.lt
       have hle := column_len hq1
       simp only at hle
       clear hq1 hr1 hb1)
    | (refine step_appG cOk7 rfl (.tmp 3) (.tmp 6) rfl (C + 1) v acc [x] rfl (HO1.out.alloc _) (some ⟨w1.heap.size, 0, none⟩) 1 1 rfl rfl (by simp) (SlG.new cOk7.len [x] rfl) (by simp [maxLen]; omega) (by simp; omega) (by simp; omega) ?_
       intro g2 cap w2 hv2 hg2
       have hbk2 : ∀ k, k ≤ C → w2.heap[k]? = w1.heap[k]? := fun k hk => (hg2.block k (by simp; omega) (fun e => by have := (HO1.out.lt _ e.symm).1; omega)).trans (Below.heap_alloc _ _ k (by omega))
       have Hbk2 := Lib.hid hbk2
       have HO2 := Lib.hid hv2
       have Hg2 := Lib.hid (((Hi.out.ap.trans Hb1.out).alloc (.cells #[.string x.name, .int .i64 x.kind, .bool x.nul, .bool x.uni, .string x.ref, .int .i64 x.act] 64)).grown hg2 (fun k hk => by have := (HO1.out.lt k hk).1; omega))
       have HV2 : Hid (Bk w2 C #[.string nm, v, .slice none 0 0] 25) := Lib.hid ((hbk2 C (Nat.le_refl _)).trans HV1.out)
       have c2' : w2.cell? ⟨C, 1, none⟩ = some v := HV2.out.cell 1
       have f2' := HV2.out.thaw 1
       have hlC2 := HV2.out.lt
       clear hv2 hg2 hbk2))
  all_goals
    go_end0
    rw [← HS.out, Hq1.out]
    refine ⟨rfl, ⟨?_, Hg2.out.own (by omega) 1 _, ⟨_, HV2.out.set 1 _, ?_⟩, ?_, by simp; omega, Hi.out.b0, Hi.out.rb0, Hi.out.c0⟩⟩
    · exact (Hr1.out.same fun k hk => Hbk2.out k (by omega)).own (by omega) 1 _
    · have h2 := HO2.out.same (w' := w2.setCell ⟨C, 1, none⟩ (.slice (some ⟨g2, 0, none⟩) (acc.length + [x].length) cap)) (fun k hk => Below.heap_setCell _ _ _ _ (by have := (HO2.out.lt k hk).1; show k ≠ C; omega))
      exact h2
    · exact (Below.heap_setCell _ _ _ _ (show rb ≠ C by have := Hi.out.c0; omega)).trans ((Hbk2.out rb (by have := Hi.out.c0; omega)).trans (Hi.out.bx.kept Hb1.out (by have := Hi.out.b0; have := Hi.out.rb0; omega)))
end Go.Proofs.YtjgpmnffagdhlaaGreatDoor
namespace Go.Proofs.YtjgpmnffagdhlaaGreatDoor
open Go Go.RowKit
set_option maxRecDepth 100000
def fnWs : List (List UInt8) := [w_count, w_sum, w_min, w_max]
def kdWs : List (List UInt8) := [w_bool, w_int, w_text]
def acWs : List (List UInt8) := [w_restrict, w_cascade, w_setnull]
/-- The words of an aggregate. -/
def agW (a : Ag) : Option (List (List UInt8)) := catW (chW a.fn fnWs) (some (if a.fn = 0 then [] else [Lib.itoa a.col]))
theorem WS.yes {B b : Nat} {u w w' : World} {o : Option (List UInt8)} {e : Ending} (k : Wk B b u w) (h : WS B b w o e w') : (e = .panicked (boom 70) ∧ o = none ∧ Wk B b u w') ∨ (e = .returned (.tuple #[]) ∧ ∃ q, o = some q ∧ Wr w' B b q ∧ q.length ≤ 20000 ∧ Wk B b u w') := by
  cases o with
  | none => exact .inl ⟨h.1, rfl, k.trans h.2⟩
  | some q => exact .inr ⟨h.1, q, rfl, h.2.1, h.2.2.1, k.trans h.2.2.2⟩
theorem Bk.alloc {w : World} {b : Nat} {cs : Array Value} {T : TypeId} (h : Bk w b cs T) (o : Obj) : Bk (w.alloc o) b cs T := h.after (below_one w o) h.lt
set_option maxHeartbeats 4000000 in
theorem agg_w (B b : Nat) (l : List UInt8) (a : Ag) (w : World) (hw : Wr w B b l) (hl : l.length ≤ 20000) (hG : Gw B w) (ha : -9223372036854775808 ≤ a.col ∧ a.col ≤ 9223372036854775807) :
    Calls Tryz.prog 126 #[.pointer (some ⟨b, 0, none⟩), a.w] w (WS B b w ((agW a).bind (addW l))) := by
  obtain ⟨S, hS⟩ : ∃ S, WS B b w ((agW a).bind (addW l)) = S := ⟨_, rfl⟩
  rw [hS]
  unfold agW at hS
  rw [catW_add] at hS
  have HS := Lib.hid hS
  have HW := Lib.hid hw
  have HL := Lib.hid hl
  have HG := Lib.hid hG
  have Ha := Lib.hid ha
  have hbw := hw.lt
  have hBw := hw.le
  obtain ⟨fn, col⟩ := a
  simp only at ha Ha HS
  clear hS hw hl hG ha
  go_enter Tryz.func126, Tryz.ntmps126
  go_wp2_with fail
  go_region_law (first
    | (refine step_callO rfl 168 #[] (by kernel_rfl) (.slice (some ⟨w.heap.size + 1, 0, none⟩) 4 4) (fun w' => w' = wdN (w.alloc (.cells #[.int .i64 fn, .int .i64 col] 74)).drew fnWs) ((fns_c _).mono ?_) ?_
       · rintro e w5 ⟨rfl, rfl⟩
         exact .inl ⟨by simp, rfl⟩
       rintro w5 rfl)
    | (refine step_callO rfl 82 #[.pointer (some ⟨b, 0, none⟩), .int .i64 fn, .slice (some ⟨w.heap.size + 1, 0, none⟩) 4 4] (by kernel_rfl) (.tuple #[]) (fun w' => ∃ q, (chW fn fnWs).bind (addW l) = some q ∧ Wr w' B b q ∧ q.length ≤ 20000 ∧ Wk B b w w' ∧ Bk w' w.heap.size #[.int .i64 fn, .int .i64 col] 74) ((choice_w B b (w.heap.size + 1) l fn fnWs 4 (wdN (w.alloc (.cells #[.int .i64 fn, .int .i64 col] 74)).drew fnWs) ((HW.out.alloc _).drew.alloc _) HL.out (Ws.new (w.alloc (.cells #[.int .i64 fn, .int .i64 col] 74)).drew b fnWs _ rfl (by simp; omega) _ (by first | rfl | simp)) rfl (by omega) (by intro s hs; simp [fnWs] at hs; rcases hs with rfl | rfl | rfl | rfl <;> decide)).mono ?_) ?_
       · intro e w6 hs
         have hk : Wk B b w (wdN (w.alloc (.cells #[.int .i64 fn, .int .i64 col] 74)).drew fnWs) := ((Wk.refl B b w).alloc hBw _).drew.alloc (by simp; omega) _
         have hbk : Bk (wdN (w.alloc (.cells #[.int .i64 fn, .int .i64 col] 74)).drew fnWs) w.heap.size #[.int .i64 fn, .int .i64 col] 74 := (Bk.new w _ _).drew.alloc _
         rcases WS.yes (Wk.refl B b _) hs with ⟨rfl, h1, h2⟩ | ⟨rfl, q, h1, h2, h3, h4⟩
         · refine .inr ⟨_, rfl, rfl, ?_⟩
           rw [← HS.out, h1]
           exact ⟨rfl, hk.trans h2⟩
         · exact .inl ⟨rfl, q, h1, h2, h3, hk.trans h4, h4.bk hbk (by omega) (by decide)⟩
       rintro w6 ⟨q, h1, h2, h3, h4, hbk⟩
       have H1 := Lib.hid h1
       have H2 := Lib.hid h2
       have H3 := Lib.hid h3
       have H4 := Lib.hid h4
       have HB := Lib.hid hbk
       have c0 : w6.cell? ⟨w.heap.size, 0, none⟩ = some (.int .i64 fn) := hbk.cell 0
       have c1 : w6.cell? ⟨w.heap.size, 1, none⟩ = some (.int .i64 col) := hbk.cell 1
       clear h1 h2 h3 h4 hbk))
  all_goals
    by_cases h0 : fn = 0
    · have hSS : WS B b w (some q) = S := by rw [← HS.out, H1.out, Option.bind_some, if_pos h0]; rfl
      subst h0
      go_wp2
      go_end0
      rw [← hSS]
      exact ⟨rfl, H2.out, H3.out, H4.out⟩
    · have hSS : WS B b w (addW q [Lib.itoa col]) = S := by rw [← HS.out, H1.out, Option.bind_some, if_neg h0]; rfl
      have HSS := Lib.hid hSS
      clear hSS
      go_wp2_with fail
      refine (number_w B b q col w6 H2.out H3.out (HG.out.below H4.out.below) Ha.out).mono ?_
      rintro e w7 hs
      rcases (WS.from H4.out hs).out HSS.out with ⟨rfl, h⟩ | ⟨rfl, h⟩
      · exact ⟨rfl, h⟩
      · have HH := Lib.hid h
        clear h hs
        go_wp2
        go_end0
        exact HH.out
end Go.Proofs.YtjgpmnffagdhlaaGreatDoor
