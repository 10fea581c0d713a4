/-
  Whether a step may take these values: mayTake, of any step, and any values, as many as it takes.
-/
import Derived.Test.YticofedglhfdpaaGreatDoorVals
namespace Go.Proofs.YticofedglhfdpaaGreatDoor
open Go Go.RowKit
set_option maxRecDepth 100000

/-- Block b holds the numbers ks. -/
def Tk (w : World) (b : Nat) (ks : List Int) : Prop := w.heap[b]? = some (.cells (ks.map (Value.int .i64)).toArray 3 (0, 0))
theorem Tk.lt {w : World} {b : Nat} {ks : List Int} (h : Tk w b ks) : b < w.heap.size := by
  rcases Nat.lt_or_ge b w.heap.size with hlt | hge
  · exact hlt
  · unfold Tk at h; rw [Array.getElem?_eq_none hge] at h; cases h
theorem Tk.after {w w' : World} {b : Nat} {ks : List Int} (h : Tk w b ks) (hb : Below w.heap.size w w') : Tk w' b ks := (hb.block b h.lt).trans h
theorem Tk.cell {w : World} {b : Nat} {ks : List Int} (h : Tk w b ks) (i : Nat) (k : Int) (hk : ks[i]? = some k) : w.cell? ⟨b, i, none⟩ = some (.int .i64 k) := by
  unfold Tk at h; simp [World.cell?, h, hk]
theorem Tk.frozen {w : World} {b : Nat} {ks : List Int} (h : Tk w b ks) (i : Nat) : w.frozen? ⟨b, i, none⟩ = false := by unfold Tk at h; simp [World.frozen?, h]
theorem Tk.set {w : World} {b : Nat} {ks : List Int} (h : Tk w b ks) (i : Nat) (k : Int) : Tk (w.setCell ⟨b, i, none⟩ (.int .i64 k)) b (ks.set i k) := by
  unfold Tk at *
  simp [World.setCell, Array.getElem?_modify, h, List.map_set]
theorem Tk.sl {w : World} {b : Nat} {ks : List Int} (h : Tk w b ks) : SlI w (some ⟨b, 0, none⟩) ks :=
  .inr ⟨b, 0, rfl, h.lt, fun i k hk => by rw [Nat.zero_add]; exact h.cell i k hk⟩
/-- The kinds of the first k values, and nothing behind. -/
def half (vs : List Val) (k : Nat) : List Int := (vs.take k).map (·.k) ++ List.replicate (vs.length - k) 0
theorem half_zero (vs : List Val) : half vs 0 = List.replicate vs.length 0 := by simp [half]
theorem half_full (vs : List Val) (k : Nat) (h : vs.length ≤ k) : half vs k = vs.map (·.k) := by
  unfold half
  rw [List.take_of_length_le h, show vs.length - k = 0 by omega]
  simp
theorem half_len (vs : List Val) (k : Nat) (h : k ≤ vs.length) : (half vs k).length = vs.length := by simp [half]; omega
theorem half_step (vs : List Val) (k : Nat) (v : Val) (h : vs[k]? = some v) : (half vs k).set k v.k = half vs (k + 1) := by
  have hlt : k < vs.length := (List.getElem?_eq_some_iff.1 h).1
  unfold half
  have hl : ((vs.take k).map (·.k)).length = k := by simp; omega
  rw [List.set_append_right _ _ (by omega), hl, Nat.sub_self, List.take_add_one, h, show vs.length - k = (vs.length - (k + 1)) + 1 by omega, List.replicate_succ]
  simp
theorem make_few (n : Nat) (hn : n ≤ 2) (w : World) : (Instr.makeSlice 41 (.int .i64 n) (.int .i64 n)).run Tryz.prog w = .ok (.slice (some ⟨w.heap.size, 0, none⟩) n n) (w.alloc (.cells ((List.replicate n (0 : Int)).map (Value.int .i64)).toArray 3)) := by
  rcases (show n = 0 ∨ n = 1 ∨ n = 2 by omega) with rfl | rfl | rfl
  · kernel_rfl
  · kernel_rfl
  · kernel_rfl
def mtR (op : Int) (vs : List Val) : Bool := (kindR op (vs.map (·.k))).2
set_option maxHeartbeats 4000000 in
theorem mayTake_c (op : Int) (A : Option Addr) (n c : Nat) (vs : List Val) (w : World) (hn : vs.length = n) (ht : vs.length = takes op) (hs : Sl w A vs) :
    Calls Tryz.prog 48 #[.int .i64 op, .slice A n c] w fun e w' => e = .returned (.bool (mtR op vs)) ∧ Below w.heap.size w w' := by
  have h2 : n ≤ 2 := by have := takes_le op; omega
  have hmk := make_few n h2
  have Hn := Lib.hid hn
  have Hs := Lib.hid hs
  have Ht := Lib.hid ht
  obtain ⟨R, hR⟩ : ∃ R, mtR op vs = R := ⟨_, rfl⟩
  rw [hR]
  have HR := Lib.hid hR
  clear hn hs ht hR
  obtain ⟨O, hO⟩ : ∃ O : Obj, O = .cells ((List.replicate n (0 : Int)).map (Value.int .i64)).toArray 3 := ⟨_, rfl⟩
  rw [← hO] at hmk
  have HO := Lib.hid hO
  clear hO
  go_enter Tryz.func48, Tryz.ntmps48
  go_wp2_with fail
  have hT : Tk (w.alloc O) w.heap.size (half vs 0) := by
    rw [half_zero, Hn.out, HO.out]
    show (w.heap.push _)[w.heap.size]? = _
    simp
  have HT := Lib.hid hT
  have HB := Lib.hid (below_one w O)
  clear hT hmk
  generalize w.alloc O = w0 at HT HB ⊢
  go_loopw [15] (fun i wr => ∃ k : Nat, k ≤ n ∧ i = .int .i64 k ∧ Hid (Tk wr w.heap.size (half vs k)) ∧ Hid (Below w.heap.size w wr)) (fun i _ => n - (intOf i).toNat)
  case atStart => exact ⟨0, Nat.zero_le _, rfl, HT, HB⟩
  case round =>
    obtain ⟨k, hk, rfl, hT, hbr⟩ := hrel
    by_cases hlt' : k < n
    · obtain ⟨v, hv⟩ : ∃ v, vs[k]? = some v := ⟨vs[k]'(by rw [Hn.out]; exact hlt'), List.getElem?_eq_getElem _⟩
      rcases Hs.out with h0 | ⟨b, off, rfl, hlt, hc⟩
      · rw [h0] at hv; simp at hv
      obtain ⟨c0, c1, c2⟩ := hc k v hv
      have d0 := (hbr.out.cell (p := ⟨b, off + k * 3, none⟩) hlt).trans c0
      have d1 := (hbr.out.cell (p := ⟨b, off + k * 3 + 1, none⟩) hlt).trans c1
      have d2 := (hbr.out.cell (p := ⟨b, off + k * 3 + 2, none⟩) hlt).trans c2
      have Hstep := Lib.hid (half_step vs k v hv)
      obtain ⟨y, hy⟩ : ∃ y, (half vs k)[k]? = some y := ⟨(half vs k)[k]'(by rw [half_len vs k (by rw [Hn.out]; exact hk), Hn.out]; exact hlt'), List.getElem?_eq_getElem _⟩
      have t0 := hT.out.cell k y hy
      have t1 := hT.out.frozen k
      have t2 := hT.out.lt
      clear c0 c1 c2 hc hv hy
      go_wp2
      go_roundw
      case rel =>
        refine ⟨k + 1, by omega, by go_num, Lib.hid ?_, Lib.hid ?_⟩
        · rw [← Hstep.out]
          exact (hT.out.set k v.k).after (below_one _ _)
        · exact (hbr.out.setCell (p := ⟨w.heap.size, k, none⟩) (Nat.le_refl _) _).alloc (by simpa [World.setCell] using hbr.out.size) _
      case measure => simp [intOf]; omega
    · have hkn : k = n := by omega
      have hT' := hT.out
      rw [half_full vs k (by rw [Hn.out]; omega)] at hT'
      have Hk := Lib.hid (kindOf_c op (some ⟨w.heap.size, 0, none⟩) n n (vs.map (·.k)) wr (by rw [List.length_map]; exact Hn.out) (by rw [List.length_map]; exact Ht.out) hT'.sl)
      clear hT' hT
      go_wp2_with fail
      refine Hk.out.mono ?_
      rintro e w1 ⟨rfl, rfl⟩
      obtain ⟨⟨r1, r2⟩, hr⟩ : ∃ r, kindR op (vs.map (·.k)) = r := ⟨_, rfl⟩
      have hRr : r2 = R := by rw [← HR.out]; unfold mtR; rw [hr]
      rw [hr]
      clear hr
      subst hRr
      go_wp2
      go_ret
      exact ⟨rfl, hbr.out⟩
end Go.Proofs.YticofedglhfdpaaGreatDoor
