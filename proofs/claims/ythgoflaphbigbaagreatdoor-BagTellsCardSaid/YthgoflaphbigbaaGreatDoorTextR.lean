/-
  Text of every value whose text has at most 2000 bytes; a row's text, of at most 200 such values.
-/
import Derived.Test.YthgoflaphbigbaaGreatDoorTextQ
import Derived.Test.YthgoflaphbigbaaGreatDoorHd
import Derived.Test.YthgoflaphbigbaaGreatDoorShelf
import Derived.Lib.LaidTab
import Derived.Laws.Concat
namespace Go.Proofs.YthgoflaphbigbaaGreatDoor
open Go Go.RowKit
set_option maxRecDepth 100000

/-- Two texts, one behind the other. -/
theorem cat_run (w : World) (x y : List UInt8) (h : x.length + y.length ≤ 10000000) : (Op.stringOp .add ⟨x.toArray⟩ ⟨y.toArray⟩).run Tryz.prog w = .ok (.string ⟨(x ++ y).toArray⟩) w := by
  rw [run_string_add_sum w ⟨x.toArray⟩ ⟨y.toArray⟩ (by show x.toArray.size + y.toArray.size ≤ _; simp; omega)]
  congr 2
set_option maxHeartbeats 400000 in
theorem text_text (x : Val) (m : Int) (w : World) (hk0 : (x.k == 0) = false) (hk1 : (x.k == 1) = false) (hk2 : (x.k == 2) = false) (hk : (x.k == 3) = true) (hs : x.s.size ≤ 2000) (hm : w.cell? ⟨0, 0, none⟩ = some (.int .i64 m)) :
    Calls Tryz.prog 55 #[x.v] w fun e w' => e = .returned (.string ⟨([39] ++ sub1 39 [39, 39] x.s.data.toList ++ [39]).toArray⟩) ∧ Below w.heap.size w w' := by
  have hlt : 0 < w.heap.size := World.block_lt_of_cell? _ _ hm
  have hr := replaceAll_sub1 39 [39, 39] x.s.data.toList (by simp)
  have hlen := sub1_length 39 [39, 39] x.s.data.toList
  have hsz : x.s.data.toList.length = x.s.size := rfl
  rw [hsz] at hlen
  generalize sub1 39 [39, 39] x.s.data.toList = r at hr hlen ⊢
  have Hr := Lib.hid hr
  have hcnt : x.s.size + Lib.countB x.s ⟨#[39]⟩ * 2 ≤ 140737488355328 := by
    have := Lib.countB_mul_le ⟨#[39]⟩ (by decide) x.s.size x.s (Nat.le_refl _)
    have e1 : (⟨#[39]⟩ : ByteArray).size = 1 := rfl
    rw [e1] at this
    omega
  have c1 : ∀ w, (Op.stringOp .add ⟨#[39]⟩ ⟨r.toArray⟩).run Tryz.prog w = .ok (.string ⟨([39] ++ r).toArray⟩) w := fun w => cat_run w [39] r (by simp only [List.length_cons, List.length_nil] at hlen ⊢; omega)
  have c2 : ∀ w, (Op.stringOp .add ⟨([39] ++ r).toArray⟩ ⟨#[39]⟩).run Tryz.prog w = .ok (.string ⟨([39] ++ r ++ [39]).toArray⟩) w := fun w => cat_run w ([39] ++ r) [39] (by simp only [List.length_append, List.length_cons, List.length_nil] at hlen ⊢; omega)
  clear hr hsz hlen
  generalize ([39] ++ r) = r1 at c1 c2 ⊢
  generalize (r1 ++ [39]) = r2 at c2 ⊢
  go_enter Tryz.func55, Tryz.ntmps55
  go_wp2_with fail
  refine (Tryz.strings_ReplaceAll _ _ _ m _ (by omega) ?_ (by decide) hcnt).mono ?_
  · rw [World.cell?_alloc_past _ _ _ hlt]; exact hm
  rintro e w1 ⟨rfl, hb1⟩
  have e1 : Lib.replaceAll x.s.data.toList (⟨#[39]⟩ : ByteArray).data.toList (⟨#[39, 39]⟩ : ByteArray).data.toList = r := Hr.out
  rw [e1]
  clear e1
  have hb : Below w.heap.size w w1 := (below_one _ _).trans (hb1.mono (by simp))
  clear hb1 hcnt
  go_wp2
  go_ret
  exact ⟨rfl, hb⟩
theorem below_grow (w : World) (k : Nat) (os : Array Obj) : Below w.heap.size w (Sort.grow (w.drewN k) os) :=
  ⟨rfl, rfl, rfl, by show w.heap.size ≤ (w.heap ++ os).size; simp, fun i hi => by
    show (w.heap ++ os)[i]? = w.heap[i]?
    rw [Array.getElem?_append_left hi]⟩

/-- The table of powers of ten stands as it stood. -/
def Tab (w : World) : Prop := Lib.TabIs Tryz.prog w "internal/strconv.uint64pow10" .u64 Lib.pow10Tab
theorem Tab.after {w w' : World} (h : Tab w) (hb : Below w.heap.size w w') (hg : 1 < w.heap.size) : Tab w' := by
  unfold Tab Lib.TabIs at *
  have hn : Tryz.prog.globalNamed "internal/strconv.uint64pow10" = some 1 := by kernel_rfl
  have e : w'.var? Tryz.prog "internal/strconv.uint64pow10" = w.var? Tryz.prog "internal/strconv.uint64pow10" := by
    unfold World.var?
    rw [hn]
    simp only [Option.bind_some, hb.block _ hg]
  rw [e]
  exact h

set_option maxHeartbeats 400000 in
theorem text_null (x : Val) (w : World) (h : (x.k == 0) = true) : Calls Tryz.prog 55 #[x.v] w fun e w' => e = .returned (.string ⟨#[110, 117, 108, 108]⟩) ∧ Below w.heap.size w w' := by
  go_enter Tryz.func55, Tryz.ntmps55
  go_wp2
  go_ret
  exact ⟨rfl, below_one _ _⟩
set_option maxHeartbeats 400000 in
theorem text_false (x : Val) (w : World) (h0 : (x.k == 0) = false) (h : (x.k == 1) = true) (hn : (x.n == 0) = true) : Calls Tryz.prog 55 #[x.v] w fun e w' => e = .returned (.string ⟨#[102, 97, 108, 115, 101]⟩) ∧ Below w.heap.size w w' := by
  go_enter Tryz.func55, Tryz.ntmps55
  go_wp2
  go_ret
  exact ⟨rfl, below_one _ _⟩
set_option maxHeartbeats 400000 in
theorem text_true (x : Val) (w : World) (h0 : (x.k == 0) = false) (h : (x.k == 1) = true) (hn : (x.n == 0) = false) : Calls Tryz.prog 55 #[x.v] w fun e w' => e = .returned (.string ⟨#[116, 114, 117, 101]⟩) ∧ Below w.heap.size w w' := by
  go_enter Tryz.func55, Tryz.ntmps55
  go_wp2
  go_ret
  exact ⟨rfl, below_one _ _⟩
set_option maxHeartbeats 400000 in
theorem text_int (x : Val) (w : World) (h0 : (x.k == 0) = false) (h1 : (x.k == 1) = false) (h : (x.k == 2) = true) (hn : -9223372036854775808 ≤ x.n ∧ x.n ≤ 9223372036854775807) (hT : Tab w) (hg : 1 < w.heap.size) :
    Calls Tryz.prog 55 #[x.v] w fun e w' => e = .returned (.string ⟨(Lib.itoa x.n).toArray⟩) ∧ Below w.heap.size w w' := by
  have HT := Lib.hid hT
  have Hn := Lib.hid hn
  clear hT hn
  go_enter Tryz.func55, Tryz.ntmps55
  go_wp2_with fail
  refine (Tryz.strconv_Itoa _ Hn.out.1 Hn.out.2 _ (HT.out.after (below_one _ _) hg)).mono ?_
  rintro e w1 ⟨rfl, k, os, hw1⟩
  have hb : Below w.heap.size w w1 := by
    rw [hw1]
    exact (below_one w _).trans ((below_grow _ k os).mono (by simp))
  clear hw1
  go_wp2
  go_ret
  exact ⟨rfl, hb⟩
set_option maxHeartbeats 400000 in
theorem text_other (x : Val) (w : World) (h0 : (x.k == 0) = false) (h1 : (x.k == 1) = false) (h2 : (x.k == 2) = false) (h3 : (x.k == 3) = false) : Calls Tryz.prog 55 #[x.v] w fun e w' => e = .returned (.string ⟨#[63]⟩) ∧ Below w.heap.size w w' := by
  go_enter Tryz.func55, Tryz.ntmps55
  go_wp2
  go_ret
  exact ⟨rfl, below_one _ _⟩
/-- What a text's making reads of the program's variables. -/
structure Gl (w : World) : Prop where
  m : ∃ m : Int, w.cell? ⟨0, 0, none⟩ = some (.int .i64 m)
  tab : Tab w
  lt : 1 < w.heap.size
theorem Gl.after {w w' : World} (h : Gl w) (hb : Below w.heap.size w w') : Gl w' := by
  obtain ⟨⟨m, hm⟩, hT, hl⟩ := h
  exact ⟨⟨m, (hb.cell (World.block_lt_of_cell? _ _ hm)).trans hm⟩, hT.after hb hl, Nat.lt_of_lt_of_le hl hb.size⟩
theorem text_c (x : Val) (w : World) (hn : -9223372036854775808 ≤ x.n ∧ x.n ≤ 9223372036854775807) (hs : x.s.size ≤ 2000) (hG : Gl w) :
    Calls Tryz.prog 55 #[x.v] w fun e w' => e = .returned (.string ⟨(textL x).toArray⟩) ∧ Below w.heap.size w w' := by
  obtain ⟨⟨m, hm⟩, hT, hg⟩ := hG
  unfold textL
  cases h0 : x.k == 0
  · cases h1 : x.k == 1
    · cases h2 : x.k == 2
      · cases h3 : x.k == 3
        · exact text_other x w h0 h1 h2 h3
        · exact text_text x m w h0 h1 h2 h3 hs hm
      · exact text_int x w h0 h1 h2 hn hT hg
    · cases hz : x.n == 0
      · exact text_true x w h0 h1 hz
      · exact text_false x w h0 h1 hz
  · exact text_null x w h0
theorem sOk : ElOk Tryz.prog 58 9 1 16 (.string ⟨#[]⟩) rdS where
  under := Tryz.underlying58
  info := by kernel_rfl
  zs := rfl
  pos := by decide
  len := fun _ => rfl
  one := fun x u hu => by
    simp [rdS] at hu
    rcases hu with rfl; rfl
/-- strings.Join of texts that were made. -/
theorem sjoin_c (g n c : Nat) (l : List (List UInt8)) (w : World) (hM : Mk w g 1 n rdS l) (hn : l.length = n) (hc : n ≤ c) (hlen : (Lib.join l [44, 32]).length ≤ 10000000) (hn2 : n ≤ 1000) :
    Calls Tryz.prog 41 #[.slice (some ⟨g, 0, none⟩) n c, .string ⟨#[44, 32]⟩] w fun e w' => e = .returned (.string ⟨(Lib.join l [44, 32]).toArray⟩) ∧ Below w.heap.size w w' := by
  have e1 : ((l.map fun t => (⟨t.toArray⟩ : ByteArray)).map (·.data.toList)) = l := by
    rw [List.map_map]
    exact List.map_id'' (fun _ => rfl) l
  have h := Tryz.strings_Join g 0 c (l.map fun t => (⟨t.toArray⟩ : ByteArray)) ⟨#[44, 32]⟩ w (fun j x hx => ?_) hM.lt (by rw [List.length_map]; omega) (by rw [List.length_map]; omega) (by rw [e1]; exact Nat.le_trans hlen (by decide))
  · rw [e1, List.length_map, hn] at h
    exact h
  · rw [List.getElem?_map] at hx
    cases hl : l[j]? with
    | none => rw [hl] at hx; cases hx
    | some t =>
      rw [hl] at hx
      simp at hx
      subst hx
      have := hM.at' j t hl 0 _ rfl
      rw [Nat.mul_one, Nat.add_zero] at this
      rw [Nat.zero_add]
      exact this
set_option maxHeartbeats 1000000 in
theorem rtext_c (A : Option Addr) (n c : Nat) (xs : List Val) (w : World) (hn : xs.length = n) (hn1 : n ≤ 200) (hs : Sl w A xs) (hx64 : ∀ x ∈ xs, -9223372036854775808 ≤ x.n ∧ x.n ≤ 9223372036854775807) (hz : ∀ x ∈ xs, x.s.size ≤ 2000) (hG : Gl w) :
    Calls Tryz.prog 39 #[.slice A n c] w fun en w' => en = .returned (.string ⟨(rowT xs).toArray⟩) ∧ Below w.heap.size w w' := by
  obtain ⟨cells, hcs, hmk⟩ := make_run sOk n (by omega) (by unfold maxLen; omega)
  obtain ⟨R, hR⟩ : ∃ R, rowT xs = R := ⟨_, rfl⟩
  rw [hR]
  have HR := Lib.hid hR
  clear hR
  have Hs := Lib.hid hs
  have Hn := Lib.hid hn
  have H6 := Lib.hid hx64
  have Hz := Lib.hid hz
  have HG := Lib.hid hG
  have Hcs := Lib.hid hcs
  clear hs hn hx64 hz hG hcs
  go_enter Tryz.func39, Tryz.ntmps39
  go_wp2_with fail
  have Hmk : Hid (Mk (w.alloc (.cells cells 9)) w.heap.size 1 n rdS []) := Mk.new w cells _ (by rw [Hcs.out])
  have Hb1 : Hid (Below w.heap.size w (w.alloc (.cells cells 9))) := below_one _ _
  clear hmk Hcs
  go_loopw [11] (fun i wr => ∃ k : Nat, k ≤ n ∧ i = .int .i64 k ∧ Hid (Below w.heap.size w wr) ∧ Hid (Mk wr w.heap.size 1 n rdS ((xs.take k).map textL))) (fun i _ => n - (intOf i).toNat)
  case atStart => exact ⟨0, Nat.zero_le _, rfl, Hb1, Hmk⟩
  case round =>
    obtain ⟨k, hk, rfl, hb, hM⟩ := hrel
    clear Hmk Hb1
    by_cases hlt : k < n
    · obtain ⟨b, off, x, rfl, hblt, hx, c0, c1, c2⟩ := Hs.out.at3 (by rw [Hn.out]; exact hlt)
      have d0 := (hb.out.cell (p := ⟨b, off + k * 3, none⟩) hblt).trans c0
      have d1 := (hb.out.cell (p := ⟨b, off + k * 3 + 1, none⟩) hblt).trans c1
      have d2 := (hb.out.cell (p := ⟨b, off + k * 3 + 2, none⟩) hblt).trans c2
      have l0 : b < wr.heap.size := Nat.lt_of_lt_of_le hblt hb.out.size
      have hmem := List.mem_of_getElem? hx
      have H6x := Lib.hid (H6.out x hmem)
      have Hzx := Lib.hid (Hz.out x hmem)
      have Hx := Lib.hid hx
      clear c0 c1 c2 hx hmem hblt
      go_wp2_with fail
      have hb2 := hb.out.alloc hb.out.size (.cells #[.int .i64 x.k, .int .i64 x.n, .string x.s] 63)
      refine (text_c x _ H6x.out Hzx.out (HG.out.after hb2)).mono ?_
      rintro en w1 ⟨rfl, hb1⟩
      have hM1 := (hM.out.same (w' := wr.alloc (.cells #[.int .i64 x.k, .int .i64 x.n, .string x.s] 63)) (by simp) (Below.heap_alloc _ _ _ hM.out.lt)).after hb1 (by have := hM.out.lt; simp; omega)
      have hb3 := hb2.trans (hb1.mono hb2.size)
      have hlen : ((xs.take k).map textL).length = k := by rw [List.length_map, List.length_take, Hn.out]; omega
      obtain ⟨u0, f0⟩ := hM1.all k (by omega)
      have z0 := hM1.thaw k
      have hset := hM1.set1 sOk.len (textL x) (.string ⟨(textL x).toArray⟩) rfl (by rw [hlen]; exact hlt)
      rw [hlen] at hset
      have e3 : (xs.take k).map textL ++ [textL x] = (xs.take (k + 1)).map textL := by
        rw [List.take_add_one, Hx.out]
        simp
      rw [e3] at hset
      have Hset := Lib.hid hset
      have Hb3 := Lib.hid (hb3.setCell (Nat.le_refl _) (p := ⟨w.heap.size, k, none⟩) (.string ⟨(textL x).toArray⟩))
      clear hb1 hb2 hb3 hM1 hlen hset e3 hb hM
      obtain ⟨T, hT⟩ : ∃ T, (⟨(textL x).toArray⟩ : ByteArray) = T := ⟨_, rfl⟩
      rw [hT] at Hset Hb3 ⊢
      go_wp2_with fail
      go_roundw
      case rel => exact ⟨k + 1, by omega, by go_num, Hb3, Hset⟩
      case measure => simp [intOf]; omega
    · obtain rfl : k = n := by omega
      have hM2 := hM.out
      rw [show xs.take k = xs from List.take_of_length_le (by rw [Hn.out]; omega)] at hM2
      have hlen := body_len xs 5000 (fun x hx => text_len x (H6.out x hx) (Hz.out x hx))
      rw [Hn.out] at hlen
      have hlen2 : (bodyL xs).length ≤ 2000000 := by omega
      have Hj := Lib.hid (sjoin_c w.heap.size k k (xs.map textL) wr hM2 (by rw [List.length_map]; exact Hn.out) (Nat.le_refl _) (by show (bodyL xs).length ≤ _; omega) (by omega))
      have c1 : ∀ w, (Op.stringOp .add ⟨#[40]⟩ ⟨(bodyL xs).toArray⟩).run Tryz.prog w = .ok (.string ⟨([40] ++ bodyL xs).toArray⟩) w := fun w => cat_run w [40] (bodyL xs) (by simp only [List.length_cons, List.length_nil]; omega)
      have c2 : ∀ w, (Op.stringOp .add ⟨([40] ++ bodyL xs).toArray⟩ ⟨#[41]⟩).run Tryz.prog w = .ok (.string ⟨([40] ++ bodyL xs ++ [41]).toArray⟩) w := fun w => cat_run w ([40] ++ bodyL xs) [41] (by simp only [List.length_append, List.length_cons, List.length_nil]; omega)
      have hbody : bodyL xs = Lib.join (xs.map textL) [44, 32] := rfl
      rw [← hbody] at Hj
      have hR2 : [40] ++ bodyL xs ++ [41] = R := HR.out
      rw [hR2] at c2
      clear hM2 hM hlen hlen2 hbody hR2 HR
      generalize bodyL xs = r at Hj c1 c2
      generalize ([40] ++ r) = r1 at c1 c2
      go_wp2_with fail
      refine Hj.out.mono ?_
      rintro en w1 ⟨rfl, hb1⟩
      have Hb1 := Lib.hid (hb.out.trans (hb1.mono hb.out.size))
      clear hb1 hb Hj
      go_wp2
      go_ret
      exact ⟨rfl, Hb1.out⟩
end Go.Proofs.YthgoflaphbigbaaGreatDoor
