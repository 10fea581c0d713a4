/-
  The print of an expression whose words are known, and the expression by which the calls that the document fixes go: c0 1 + 5 <.
-/
import Derived.Test.YticofedglhfdpaaGreatDoorEval
import Derived.Test.YticofedglhfdpaaGreatDoorType
import Derived.Test.YticofedglhfdpaaGreatDoorShelf
import Derived.Laws.OwnMore
namespace Go.Proofs.YticofedglhfdpaaGreatDoor
open Go Go.RowKit
set_option maxRecDepth 100000

/-- What the program needs to know of its table of words. -/
structure Wd (w : World) : Prop where
  plus : w.cell? ⟨0, 2, none⟩ = some (.string ⟨#[43]⟩)
  less : w.cell? ⟨0, 6, none⟩ = some (.string ⟨#[60]⟩)
theorem Wd.lt {w : World} (h : Wd w) : 0 < w.heap.size := World.block_lt_of_cell? _ _ h.plus
theorem Wd.after {w w' : World} (h : Wd w) (hb : Below w.heap.size w w') : Wd w' := ⟨(hb.cell (p := ⟨0, 2, none⟩) h.lt).trans h.plus, (hb.cell (p := ⟨0, 6, none⟩) h.lt).trans h.less⟩

/-- Block b holds the texts ss. -/
def Ts (w : World) (b : Nat) (ss : List ByteArray) : Prop := w.heap[b]? = some (.cells (ss.map Value.string).toArray 9 (0, 0))
theorem Ts.lt {w : World} {b : Nat} {ss : List ByteArray} (h : Ts w b ss) : b < w.heap.size := by
  rcases Nat.lt_or_ge b w.heap.size with hlt | hge
  · exact hlt
  · unfold Ts at h; rw [Array.getElem?_eq_none hge] at h; cases h
theorem Ts.after {w w' : World} {b : Nat} {ss : List ByteArray} (h : Ts w b ss) (hb : Below w.heap.size w w') : Ts w' b ss := (hb.block b h.lt).trans h
theorem Ts.cell {w : World} {b : Nat} {ss : List ByteArray} (h : Ts w b ss) (i : Nat) (s : ByteArray) (hk : ss[i]? = some s) : w.cell? ⟨b, i, none⟩ = some (.string s) := by
  unfold Ts at h; simp [World.cell?, h, hk]
theorem Ts.frozen {w : World} {b : Nat} {ss : List ByteArray} (h : Ts w b ss) (i : Nat) : w.frozen? ⟨b, i, none⟩ = false := by unfold Ts at h; simp [World.frozen?, h]
theorem Ts.set {w : World} {b : Nat} {ss : List ByteArray} (h : Ts w b ss) (i : Nat) (s : ByteArray) : Ts (w.setCell ⟨b, i, none⟩ (.string s)) b (ss.set i s) := by
  unfold Ts at *
  simp [World.setCell, Array.getElem?_modify, h, List.map_set]
theorem strInfo : (Tryz.prog.info? 9).map (fun i => (i.zero, i.size, i.bytes)) = some (some (.string emp), 1, 16) := by kernel_rfl
theorem make_strs (n : Nat) (hn : n ≤ 1000000) (w : World) : (Instr.makeSlice 66 (.int .i64 n) (.int .i64 n)).run Tryz.prog w = .ok (.slice (some ⟨w.heap.size, 0, none⟩) n n) (w.alloc (.cells ((List.replicate n emp).map Value.string).toArray 9)) := by
  obtain ⟨i0, hi, hz0, hz1, hz2⟩ := info_parts strInfo
  have h := run_make (P := Tryz.prog) w 66 9 i0 (.string emp) Tryz.underlying66 hi hz0 .i64 .i64 n n (by omega) (by omega) (by rw [hz2]; omega) (by omega)
  rw [h, hz1, Int.toNat_natCast, Nat.mul_one]
  have e : madeCells (Value.string emp).cells n = ((List.replicate n emp).map Value.string).toArray := by
    have h1 : (madeCells #[.string emp] n).toList = List.replicate n (.string emp) := toList_madeCells_one _ _
    rw [List.map_replicate, ← h1]
    rfl
  rw [e]

section
variable (wd : Nd → ByteArray)
/-- The words of the first k steps, and nothing behind. -/
def halfT (e : List Nd) (k : Nat) : List ByteArray := (e.take k).map wd ++ List.replicate (e.length - k) emp
theorem halfT_zero (e : List Nd) : halfT wd e 0 = List.replicate e.length emp := by simp [halfT]
theorem halfT_full (e : List Nd) (k : Nat) (h : e.length ≤ k) : halfT wd e k = e.map wd := by
  unfold halfT
  rw [List.take_of_length_le h, show e.length - k = 0 by omega]
  simp
theorem halfT_len (e : List Nd) (k : Nat) (h : k ≤ e.length) : (halfT wd e k).length = e.length := by simp [halfT]; omega
theorem halfT_step (e : List Nd) (k : Nat) (x : Nd) (h : e[k]? = some x) : (halfT wd e k).set k (wd x) = halfT wd e (k + 1) := by
  have hlt : k < e.length := (List.getElem?_eq_some_iff.1 h).1
  unfold halfT
  have hl : ((e.take k).map wd).length = k := by simp; omega
  rw [List.set_append_right _ _ (by omega), hl, Nat.sub_self, List.take_add_one, h, show e.length - k = (e.length - (k + 1)) + 1 by omega, List.replicate_succ]
  simp
end
/-- The print of an expression. -/
def textR (wd : Nd → ByteArray) (e : List Nd) : ByteArray := ⟨(Lib.join ((e.map wd).map (·.data.toList)) [32]).toArray⟩
set_option maxHeartbeats 4000000 in
theorem text_c (wd : Nd → ByteArray) (A : Option Addr) (n c : Nat) (e : List Nd) (w : World) (hn : e.length = n) (h0 : 0 < n) (hmax : n ≤ 120) (hs : SlN w A e) (hlen : (Lib.join ((e.map wd).map (·.data.toList)) [32]).length ≤ 140737488355328)
    (hw : ∀ x ∈ e, ∀ w', Below w.heap.size w w' → Calls Tryz.prog 25 #[x.w] w' fun en w'' => en = .returned (.string (wd x)) ∧ Below w'.heap.size w' w'') :
    Calls Tryz.prog 14 #[.slice A n c] w fun en w' => en = .returned (.string (textR wd e)) ∧ Below w.heap.size w w' := by
  have hmk := make_strs n (by omega)
  have Hn := Lib.hid hn
  have Hs := Lib.hid hs
  have Hw := Lib.hid hw
  have Hl := Lib.hid hlen
  obtain ⟨R, hR⟩ : ∃ R, textR wd e = R := ⟨_, rfl⟩
  rw [hR]
  have HR := Lib.hid hR
  clear hn hs hw hR hlen
  obtain ⟨O, hO⟩ : ∃ O : Obj, O = .cells ((List.replicate n emp).map Value.string).toArray 9 := ⟨_, rfl⟩
  rw [← hO] at hmk
  have HO := Lib.hid hO
  clear hO
  go_enter Tryz.func14, Tryz.ntmps14
  go_wp2_with fail
  have hT : Ts (w.alloc O) w.heap.size (halfT wd e 0) := by
    rw [halfT_zero, Hn.out, HO.out]
    show (w.heap.push _)[w.heap.size]? = _
    simp
  have HT := Lib.hid hT
  have HB := Lib.hid (below_one w O)
  clear hT hmk
  generalize w.alloc O = w0 at HT HB ⊢
  go_loopw [11] (fun i wr => ∃ k : Nat, k ≤ n ∧ i = .int .i64 k ∧ Hid (Ts wr w.heap.size (halfT wd e k)) ∧ Hid (Below w.heap.size w wr)) (fun i _ => n - (intOf i).toNat)
  case atStart => exact ⟨0, Nat.zero_le _, rfl, HT, HB⟩
  case round =>
    obtain ⟨k, hk, rfl, hT, hbr⟩ := hrel
    by_cases hlt' : k < n
    · obtain ⟨x, hx⟩ : ∃ x, e[k]? = some x := ⟨e[k]'(by rw [Hn.out]; exact hlt'), List.getElem?_eq_getElem _⟩
      rcases Hs.out with h0 | ⟨b, off, rfl, hlt, hc⟩
      · rw [h0] at hx; simp at hx
      obtain ⟨c0, c1, c2, c3, c4⟩ := hc k x hx
      have d0 := (hbr.out.cell (p := ⟨b, off + k * 5, none⟩) hlt).trans c0
      have d1 := (hbr.out.cell (p := ⟨b, off + k * 5 + 1, none⟩) hlt).trans c1
      have d2 := (hbr.out.cell (p := ⟨b, off + k * 5 + 2, none⟩) hlt).trans c2
      have d3 := (hbr.out.cell (p := ⟨b, off + k * 5 + 3, none⟩) hlt).trans c3
      have d4 := (hbr.out.cell (p := ⟨b, off + k * 5 + 4, none⟩) hlt).trans c4
      have Hstep := Lib.hid (halfT_step wd e k x hx)
      obtain ⟨y, hy⟩ : ∃ y, (halfT wd e k)[k]? = some y := ⟨(halfT wd e k)[k]'(by rw [halfT_len wd e k (by rw [Hn.out]; exact hk), Hn.out]; exact hlt'), List.getElem?_eq_getElem _⟩
      have Hy := Lib.hid hy
      have Hcall := Lib.hid (Hw.out x (List.mem_of_getElem? hx))
      clear c0 c1 c2 c3 c4 hc hx hy
      go_wp2_with fail
      refine (Hcall.out _ (hbr.out.alloc hbr.out.size _)).mono ?_
      rintro en w1 ⟨rfl, hb1⟩
      have hb2 : Below wr.heap.size wr w1 := (below_one _ _).trans (hb1.mono (by simp))
      have T1 := hT.out.after hb2
      have HB1 := Lib.hid (hbr.out.trans (hb2.mono hbr.out.size))
      have t0 := T1.cell k y Hy.out
      have t1 := T1.frozen k
      have t2 := T1.lt
      obtain ⟨s, hs⟩ : ∃ s, wd x = s := ⟨_, rfl⟩
      rw [hs] at Hstep ⊢
      have HT1 := Lib.hid T1
      clear T1 hb1 hb2 hT hbr d0 d1 d2 d3 d4 Hcall hs
      go_wp2
      go_roundw
      case rel =>
        refine ⟨k + 1, by omega, by go_num, Lib.hid ?_, Lib.hid ?_⟩
        · rw [← Hstep.out]
          exact HT1.out.set k s
        · exact HB1.out.setCell (p := ⟨w.heap.size, k, none⟩) (Nat.le_refl _) _
      case measure => simp [intOf]; omega
    · have hkn : k = n := by omega
      have hT' := hT.out
      rw [halfT_full wd e k (by rw [Hn.out]; omega)] at hT'
      have hJ := Tryz.strings_Join w.heap.size 0 n (e.map wd) ⟨#[32]⟩ wr (fun j x hx => by rw [Nat.zero_add]; exact hT'.cell j x hx) hT'.lt (by rw [List.length_map, Hn.out]; omega) (by rw [List.length_map, Hn.out]; exact Nat.le_refl _) Hl.out
      rw [List.length_map, Hn.out] at hJ
      have HJ := Lib.hid hJ
      clear hT' hT hJ
      go_wp2_with fail
      refine HJ.out.mono ?_
      rintro en w1 ⟨rfl, hb1⟩
      have HB1 := Lib.hid (hbr.out.trans (hb1.mono hbr.out.size))
      have hR := HR.out
      unfold textR at hR
      rw [hR]
      clear hb1 hbr hR HJ
      go_wp2
      go_ret
      exact ⟨rfl, HB1.out⟩

/-- The steps of c0 1 + 5 <. -/
def lowE : List Nd := [⟨0, 0, nl⟩, ⟨1, 0, iv 1⟩, ⟨2, 0, nl⟩, ⟨1, 0, iv 5⟩, ⟨6, 0, nl⟩]
set_option maxHeartbeats 1000000 in
theorem word_col (w : World) : Calls Tryz.prog 25 #[(⟨0, 0, nl⟩ : Nd).w] w fun en w' => en = .returned (.string ⟨#[99, 48]⟩) ∧ Below w.heap.size w w' := by
  go_enter Tryz.func25, Tryz.ntmps25
  go_wp2_with fail
  refine (Tryz.strconv_Itoa_small 0 (by omega) _).mono ?_
  rintro e w1 ⟨rfl, rfl⟩
  rw [show (Lib.decDigits 0).toArray = #[48] by kernel_rfl]
  go_wp2
  go_ret
  exact ⟨rfl, below_one _ _⟩
set_option maxHeartbeats 1000000 in
theorem text_int (i : Nat) (hi : i < 100) (w : World) : Calls Tryz.prog 40 #[(iv i).v] w fun en w' => en = .returned (.string ⟨(Lib.decDigits i).toArray⟩) ∧ Below w.heap.size w w' := by
  obtain ⟨q, hq⟩ : ∃ q, (Lib.decDigits i).toArray = q := ⟨_, rfl⟩
  rw [hq]
  have Hq := Lib.hid hq
  clear hq
  go_enter Tryz.func40, Tryz.ntmps40
  go_wp2_with fail
  refine (Tryz.strconv_Itoa_small i hi _).mono ?_
  rintro e w1 ⟨rfl, rfl⟩
  rw [Hq.out]
  go_wp2
  go_ret
  exact ⟨rfl, below_one _ _⟩
set_option maxHeartbeats 1000000 in
theorem word_const (i : Nat) (hi : i < 100) (w : World) : Calls Tryz.prog 25 #[(⟨1, 0, iv i⟩ : Nd).w] w fun en w' => en = .returned (.string ⟨(Lib.decDigits i).toArray⟩) ∧ Below w.heap.size w w' := by
  have Ht := Lib.hid (text_int i hi)
  clear hi
  obtain ⟨q, hq⟩ : ∃ q, (Lib.decDigits i).toArray = q := ⟨_, rfl⟩
  rw [hq]
  have Hq := Lib.hid hq
  clear hq
  go_enter Tryz.func25, Tryz.ntmps25
  go_wp2_with fail
  refine (Ht.out _).mono ?_
  rintro e w1 ⟨rfl, hb⟩
  have Hb := Lib.hid ((below_one w _).trans (hb.mono (by simp)))
  clear hb
  rw [Hq.out]
  go_wp2
  go_ret
  exact ⟨rfl, Hb.out⟩
set_option maxHeartbeats 1000000 in
theorem word_plus (w : World) (h : Wd w) : Calls Tryz.prog 25 #[(⟨2, 0, nl⟩ : Nd).w] w fun en w' => en = .returned (.string ⟨#[43]⟩) ∧ Below w.heap.size w w' := by
  have hp := h.plus
  have hlt := h.lt
  clear h
  go_enter Tryz.func25, Tryz.ntmps25
  go_wp2
  go_ret
  exact ⟨rfl, below_one _ _⟩
set_option maxHeartbeats 1000000 in
theorem word_less (w : World) (h : Wd w) : Calls Tryz.prog 25 #[(⟨6, 0, nl⟩ : Nd).w] w fun en w' => en = .returned (.string ⟨#[60]⟩) ∧ Below w.heap.size w w' := by
  have hp := h.less
  have hlt := h.lt
  clear h
  go_enter Tryz.func25, Tryz.ntmps25
  go_wp2
  go_ret
  exact ⟨rfl, below_one _ _⟩
def lowT : ByteArray := ⟨#[99, 48, 32, 49, 32, 43, 32, 53, 32, 60]⟩
def lowW (x : Nd) : ByteArray := if x.op == 0 then ⟨#[99, 48]⟩ else if x.op == 1 then ⟨(Lib.decDigits x.v.n.toNat).toArray⟩ else if x.op == 2 then ⟨#[43]⟩ else ⟨#[60]⟩
theorem lowText : textR lowW lowE = lowT := by
  kernel_rfl
theorem text_low (A : Option Addr) (c : Nat) (w : World) (hs : SlN w A lowE) (hw : Wd w) :
    Calls Tryz.prog 14 #[.slice A 5 c] w fun en w' => en = .returned (.string lowT) ∧ Below w.heap.size w w' := by
  have h := text_c lowW A 5 c lowE w rfl (by decide) (by decide) hs (of_decide_eq_true (by kernel_rfl)) ?_
  · rw [lowText] at h
    exact h
  · intro x hx w' hb
    have hw' := hw.after hb
    simp only [lowE, List.mem_cons, List.not_mem_nil, or_false] at hx
    rcases hx with rfl | rfl | rfl | rfl | rfl
    · exact word_col w'
    · exact word_const 1 (by omega) w'
    · exact word_plus w' hw'
    · exact word_const 5 (by omega) w'
    · exact word_less w' hw'

theorem SlN.new {w : World} {cs : Array Value} (e : List Nd) (h : cs = (e.flatMap fun x => x.cells.toList).toArray) : SlN (w.alloc (.cells cs 36)) (some ⟨w.heap.size, 0, none⟩) e := by
  subst h
  have hc : ∀ i, (w.alloc (.cells (e.flatMap fun x => x.cells.toList).toArray 36)).cell? ⟨w.heap.size, i, none⟩ = (e.flatMap fun x => x.cells.toList)[i]? := fun i => by
    have e0 : (w.alloc (.cells (e.flatMap fun x => x.cells.toList).toArray 36)).heap[w.heap.size]? = some (.cells (e.flatMap fun x => x.cells.toList).toArray 36 (0, 0)) := by
      show (w.heap.push _)[w.heap.size]? = _
      simp
    simp only [World.cell?, e0, Option.isSome_none, Bool.false_eq_true, if_false, List.getElem?_toArray]
  have hat : ∀ (e : List Nd) (i j : Nat) (x : Nd), e[i]? = some x → j < 5 → (e.flatMap fun x => x.cells.toList)[i * 5 + j]? = x.cells.toList[j]? := by
    intro e
    induction e with
    | nil => intro i j x h; simp at h
    | cons y r ih =>
      intro i j x h hj
      have hl : y.cells.toList.length = 5 := rfl
      rw [List.flatMap_cons]
      cases i with
      | zero =>
        simp at h; subst h
        rw [Nat.zero_mul, Nat.zero_add, List.getElem?_append_left (by rw [hl]; exact hj)]
      | succ i =>
        rw [List.getElem?_append_right (by rw [hl]; omega), hl, show (i + 1) * 5 + j - 5 = i * 5 + j by omega]
        exact ih i j x (by simpa using h) hj
  refine .inr ⟨w.heap.size, 0, rfl, by simp, fun i x hx => ?_⟩
  rw [Nat.zero_add]
  exact ⟨(hc _).trans (hat e i 0 x hx (by decide)), (hc _).trans (hat e i 1 x hx (by decide)), (hc _).trans (hat e i 2 x hx (by decide)), (hc _).trans (hat e i 3 x hx (by decide)), (hc _).trans (hat e i 4 x hx (by decide))⟩
set_option maxHeartbeats 1000000 in
theorem low_c (w : World) : Calls Tryz.prog 9 #[] w fun en w' => ∃ g, en = .returned (.slice (some ⟨g, 0, none⟩) 5 5) ∧ Below w.heap.size w w' ∧ SlN w' (some ⟨g, 0, none⟩) lowE := by
  go_enter Tryz.func9, Tryz.ntmps9
  go_wp2_with fail
  refine (rint_c 1 _).mono ?_
  rintro e w1 ⟨rfl, hb1⟩
  go_wp2_with fail
  refine (rint_c 5 _).mono ?_
  rintro e w2 ⟨rfl, hb2⟩
  have Hb := Lib.hid (hb1.trans (hb2.mono hb1.size))
  clear hb1 hb2
  go_wp2
  go_ret
  exact ⟨_, rfl, Hb.out.alloc Hb.out.size _, SlN.new lowE rfl⟩
end Go.Proofs.YticofedglhfdpaaGreatDoor
