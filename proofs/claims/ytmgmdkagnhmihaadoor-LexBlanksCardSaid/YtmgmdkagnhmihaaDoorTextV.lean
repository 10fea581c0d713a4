/-
  Text of every value whose text has at most 2000 bytes; strings.Join, with a blank, of at most 1000 texts that were made.
-/
import Derived.Test.YtmgmdkagnhmihaaDoorTextQ
import Derived.Test.YtmgmdkagnhmihaaDoorHd
import Derived.Test.YtmgmdkagnhmihaaDoorShelf
import Derived.Lib.LaidTab
import Derived.Laws.Concat
namespace Go.Proofs.YtmgmdkagnhmihaaDoor
open Go Go.RowKit
set_option maxRecDepth 100000

/-- Two texts, one behind the other. -/
theorem cat_run (w : World) (x y : List UInt8) (h : x.length + y.length ≤ 10000000) : (Op.stringOp .add ⟨x.toArray⟩ ⟨y.toArray⟩).run Tryd.prog w = .ok (.string ⟨(x ++ y).toArray⟩) w := by
  rw [run_string_add_sum w ⟨x.toArray⟩ ⟨y.toArray⟩ (by show x.toArray.size + y.toArray.size ≤ _; simp; omega)]
  congr 2
set_option maxHeartbeats 400000 in
theorem text_text (x : Val) (m : Int) (w : World) (hk0 : (x.k == 0) = false) (hk1 : (x.k == 1) = false) (hk2 : (x.k == 2) = false) (hk : (x.k == 3) = true) (hs : x.s.size ≤ 2000) (hm : w.cell? ⟨0, 0, none⟩ = some (.int .i64 m)) :
    Calls Tryd.prog 20 #[x.v] w fun e w' => e = .returned (.string ⟨([39] ++ sub1 39 [39, 39] x.s.data.toList ++ [39]).toArray⟩) ∧ Below w.heap.size w w' := by
  have hlt : 0 < w.heap.size := World.block_lt_of_cell? _ _ hm
  have hr := replaceAll_sub1 39 [39, 39] x.s.data.toList (by simp)
  have hlen := sub1_length 39 [39, 39] x.s.data.toList
  have hsz : x.s.data.toList.length = x.s.size := rfl
  rw [hsz] at hlen
  generalize sub1 39 [39, 39] x.s.data.toList = r at hr hlen ⊢
  have Hr := Lib.hid hr
  have hcnt : x.s.size + Lib.countB x.s ⟨#[39]⟩ * 2 ≤ 140737488355328 := by
    have := Lib.countB_mul_le ⟨#[39]⟩ (by decide) x.s.size x.s (Nat.le_refl _)
    have e1 : (⟨#[39]⟩ : ByteArray).size = 1 := rfl
    rw [e1] at this
    omega
  have c1 : ∀ w, (Op.stringOp .add ⟨#[39]⟩ ⟨r.toArray⟩).run Tryd.prog w = .ok (.string ⟨([39] ++ r).toArray⟩) w := fun w => cat_run w [39] r (by simp only [List.length_cons, List.length_nil] at hlen ⊢; omega)
  have c2 : ∀ w, (Op.stringOp .add ⟨([39] ++ r).toArray⟩ ⟨#[39]⟩).run Tryd.prog w = .ok (.string ⟨([39] ++ r ++ [39]).toArray⟩) w := fun w => cat_run w ([39] ++ r) [39] (by simp only [List.length_append, List.length_cons, List.length_nil] at hlen ⊢; omega)
  clear hr hsz hlen
  generalize ([39] ++ r) = r1 at c1 c2 ⊢
  generalize (r1 ++ [39]) = r2 at c2 ⊢
  go_enter Tryd.func20, Tryd.ntmps20
  go_wp2_with fail
  refine (Tryd.strings_ReplaceAll _ _ _ m _ (by omega) ?_ (by decide) hcnt).mono ?_
  · rw [World.cell?_alloc_past _ _ _ hlt]; exact hm
  rintro e w1 ⟨rfl, hb1⟩
  have e1 : Lib.replaceAll x.s.data.toList (⟨#[39]⟩ : ByteArray).data.toList (⟨#[39, 39]⟩ : ByteArray).data.toList = r := Hr.out
  rw [e1]
  clear e1
  have hb : Below w.heap.size w w1 := (below_one _ _).trans (hb1.mono (by simp))
  clear hb1 hcnt
  go_wp2
  go_ret
  exact ⟨rfl, hb⟩
theorem below_grow (w : World) (k : Nat) (os : Array Obj) : Below w.heap.size w (Sort.grow (w.drewN k) os) :=
  ⟨rfl, rfl, rfl, by show w.heap.size ≤ (w.heap ++ os).size; simp, fun i hi => by
    show (w.heap ++ os)[i]? = w.heap[i]?
    rw [Array.getElem?_append_left hi]⟩

/-- The table of powers of ten stands as it stood. -/
def Tab (w : World) : Prop := Lib.TabIs Tryd.prog w "internal/strconv.uint64pow10" .u64 Lib.pow10Tab
theorem Tab.after {w w' : World} (h : Tab w) (hb : Below w.heap.size w w') (hg : 3 < w.heap.size) : Tab w' := by
  unfold Tab Lib.TabIs at *
  have hn : Tryd.prog.globalNamed "internal/strconv.uint64pow10" = some 3 := by kernel_rfl
  have e : w'.var? Tryd.prog "internal/strconv.uint64pow10" = w.var? Tryd.prog "internal/strconv.uint64pow10" := by
    unfold World.var?
    rw [hn]
    simp only [Option.bind_some, hb.block _ hg]
  rw [e]
  exact h

set_option maxHeartbeats 400000 in
theorem text_null (x : Val) (w : World) (h : (x.k == 0) = true) : Calls Tryd.prog 20 #[x.v] w fun e w' => e = .returned (.string ⟨#[110, 117, 108, 108]⟩) ∧ Below w.heap.size w w' := by
  go_enter Tryd.func20, Tryd.ntmps20
  go_wp2
  go_ret
  exact ⟨rfl, below_one _ _⟩
set_option maxHeartbeats 400000 in
theorem text_false (x : Val) (w : World) (h0 : (x.k == 0) = false) (h : (x.k == 1) = true) (hn : (x.n == 0) = true) : Calls Tryd.prog 20 #[x.v] w fun e w' => e = .returned (.string ⟨#[102, 97, 108, 115, 101]⟩) ∧ Below w.heap.size w w' := by
  go_enter Tryd.func20, Tryd.ntmps20
  go_wp2
  go_ret
  exact ⟨rfl, below_one _ _⟩
set_option maxHeartbeats 400000 in
theorem text_true (x : Val) (w : World) (h0 : (x.k == 0) = false) (h : (x.k == 1) = true) (hn : (x.n == 0) = false) : Calls Tryd.prog 20 #[x.v] w fun e w' => e = .returned (.string ⟨#[116, 114, 117, 101]⟩) ∧ Below w.heap.size w w' := by
  go_enter Tryd.func20, Tryd.ntmps20
  go_wp2
  go_ret
  exact ⟨rfl, below_one _ _⟩
set_option maxHeartbeats 400000 in
theorem text_int (x : Val) (w : World) (h0 : (x.k == 0) = false) (h1 : (x.k == 1) = false) (h : (x.k == 2) = true) (hn : -9223372036854775808 ≤ x.n ∧ x.n ≤ 9223372036854775807) (hT : Tab w) (hg : 3 < w.heap.size) :
    Calls Tryd.prog 20 #[x.v] w fun e w' => e = .returned (.string ⟨(Lib.itoa x.n).toArray⟩) ∧ Below w.heap.size w w' := by
  have HT := Lib.hid hT
  have Hn := Lib.hid hn
  clear hT hn
  go_enter Tryd.func20, Tryd.ntmps20
  go_wp2_with fail
  refine (Tryd.strconv_Itoa _ Hn.out.1 Hn.out.2 _ (HT.out.after (below_one _ _) hg)).mono ?_
  rintro e w1 ⟨rfl, k, os, hw1⟩
  have hb : Below w.heap.size w w1 := by
    rw [hw1]
    exact (below_one w _).trans ((below_grow _ k os).mono (by simp))
  clear hw1
  go_wp2
  go_ret
  exact ⟨rfl, hb⟩
set_option maxHeartbeats 400000 in
theorem text_other (x : Val) (w : World) (h0 : (x.k == 0) = false) (h1 : (x.k == 1) = false) (h2 : (x.k == 2) = false) (h3 : (x.k == 3) = false) : Calls Tryd.prog 20 #[x.v] w fun e w' => e = .returned (.string ⟨#[63]⟩) ∧ Below w.heap.size w w' := by
  go_enter Tryd.func20, Tryd.ntmps20
  go_wp2
  go_ret
  exact ⟨rfl, below_one _ _⟩
/-- What a text's making reads of the program's variables. -/
structure Gl (w : World) : Prop where
  m : ∃ m : Int, w.cell? ⟨0, 0, none⟩ = some (.int .i64 m)
  tab : Tab w
  lt : 3 < w.heap.size
theorem Gl.after {w w' : World} (h : Gl w) (hb : Below w.heap.size w w') : Gl w' := by
  obtain ⟨⟨m, hm⟩, hT, hl⟩ := h
  exact ⟨⟨m, (hb.cell (World.block_lt_of_cell? _ _ hm)).trans hm⟩, hT.after hb hl, Nat.lt_of_lt_of_le hl hb.size⟩
theorem text_c (x : Val) (w : World) (hn : -9223372036854775808 ≤ x.n ∧ x.n ≤ 9223372036854775807) (hs : x.s.size ≤ 2000) (hG : Gl w) :
    Calls Tryd.prog 20 #[x.v] w fun e w' => e = .returned (.string ⟨(textL x).toArray⟩) ∧ Below w.heap.size w w' := by
  obtain ⟨⟨m, hm⟩, hT, hg⟩ := hG
  unfold textL
  cases h0 : x.k == 0
  · cases h1 : x.k == 1
    · cases h2 : x.k == 2
      · cases h3 : x.k == 3
        · exact text_other x w h0 h1 h2 h3
        · exact text_text x m w h0 h1 h2 h3 hs hm
      · exact text_int x w h0 h1 h2 hn hT hg
    · cases hz : x.n == 0
      · exact text_true x w h0 h1 hz
      · exact text_false x w h0 h1 hz
  · exact text_null x w h0
theorem sOk : ElOk Tryd.prog 47 9 1 16 (.string ⟨#[]⟩) rdS where
  under := Tryd.underlying47
  info := by kernel_rfl
  zs := rfl
  pos := by decide
  len := fun _ => rfl
  one := fun x u hu => by
    simp [rdS] at hu
    rcases hu with rfl; rfl
/-- strings.Join of texts that were made. -/
theorem sjoin_c (g n c : Nat) (l : List (List UInt8)) (w : World) (hM : Mk w g 1 n rdS l) (hn : l.length = n) (hc : n ≤ c) (hlen : (Lib.join l [32]).length ≤ 1000000000) (hn2 : n ≤ 20000) :
    Calls Tryd.prog 21 #[.slice (some ⟨g, 0, none⟩) n c, .string ⟨#[32]⟩] w fun e w' => e = .returned (.string ⟨(Lib.join l [32]).toArray⟩) ∧ Below w.heap.size w w' := by
  have e1 : ((l.map fun t => (⟨t.toArray⟩ : ByteArray)).map (·.data.toList)) = l := by
    rw [List.map_map]
    exact List.map_id'' (fun _ => rfl) l
  have h := Tryd.strings_Join g 0 c (l.map fun t => (⟨t.toArray⟩ : ByteArray)) ⟨#[32]⟩ w (fun j x hx => ?_) hM.lt (by rw [List.length_map]; omega) (by rw [List.length_map]; omega) (by rw [e1]; exact Nat.le_trans hlen (by decide))
  · rw [e1, List.length_map, hn] at h
    exact h
  · rw [List.getElem?_map] at hx
    cases hl : l[j]? with
    | none => rw [hl] at hx; cases hx
    | some t =>
      rw [hl] at hx
      simp at hx
      subst hx
      have := hM.at' j t hl 0 _ rfl
      rw [Nat.mul_one, Nat.add_zero] at this
      rw [Nat.zero_add]
      exact this
/-- The program's variables lie below. -/
def GLt (n : Nat) : Prop := 0 < n ∧ 3 < n ∧ 1 < n ∧ 2 < n
theorem GLt.le {n m : Nat} (h : GLt n) (hm : n ≤ m) : GLt m := by
  obtain ⟨h1, h2, h3, h4⟩ := h
  exact ⟨by omega, by omega, by omega, by omega⟩
/-- What the program reads of its variables. -/
structure GL (w : World) : Prop where
  gl : Gl w
  syn : ∃ tp p, w.var? Tryd.prog "strconv.ErrSyntax" = some #[.iface tp p]
  rng : ∃ tp p, w.var? Tryd.prog "strconv.ErrRange" = some #[.iface tp p]
  lt : GLt w.heap.size
theorem GL.below {w w' : World} {B : Nat} (h : GL w) (hb : Below B w w') (hB : GLt B) : GL w' := by
  obtain ⟨⟨⟨m, hm⟩, h0, hl⟩, ⟨t1, p1, h1⟩, ⟨t2, p2, h2⟩, l1⟩ := h
  have n0 : Tryd.prog.globalNamed "internal/strconv.uint64pow10" = some 3 := by kernel_rfl
  have n1 : Tryd.prog.globalNamed "strconv.ErrSyntax" = some 1 := by kernel_rfl
  have n2 : Tryd.prog.globalNamed "strconv.ErrRange" = some 2 := by kernel_rfl
  have e0 : w'.var? Tryd.prog "internal/strconv.uint64pow10" = w.var? Tryd.prog "internal/strconv.uint64pow10" := by
    unfold World.var?
    rw [n0]
    simp only [Option.bind_some, hb.block _ hB.2.1]
  have e1 : w'.var? Tryd.prog "strconv.ErrSyntax" = w.var? Tryd.prog "strconv.ErrSyntax" := by
    unfold World.var?
    rw [n1]
    simp only [Option.bind_some, hb.block _ hB.2.2.1]
  have e2 : w'.var? Tryd.prog "strconv.ErrRange" = w.var? Tryd.prog "strconv.ErrRange" := by
    unfold World.var?
    rw [n2]
    simp only [Option.bind_some, hb.block _ hB.2.2.2]
  have h0' : Tab w' := by
    unfold Tab Lib.TabIs at *
    rw [e0]
    exact h0
  exact ⟨⟨⟨m, (hb.cell hB.1).trans hm⟩, h0', Nat.lt_of_lt_of_le hl hb.size⟩, ⟨t1, p1, e1.trans h1⟩, ⟨t2, p2, e2.trans h2⟩, l1.le hb.size⟩
theorem GL.after {w w' : World} (h : GL w) (hb : Below w.heap.size w w') : GL w' := h.below hb h.lt
end Go.Proofs.YtmgmdkagnhmihaaDoor
