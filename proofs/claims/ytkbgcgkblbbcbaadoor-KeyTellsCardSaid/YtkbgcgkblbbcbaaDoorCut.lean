/-
  The value that some bytes begin with, and what is behind it: what the program's cutValue answers, of any text that is not too long.
-/
import Derived.Test.YtkbgcgkblbbcbaaDoorDec
namespace Go.Proofs.YtkbgcgkblbbcbaaDoor
open Go Go.RowKit

theorem enMay : ∀ args w, (callFunc 21 args).run Tryd.prog w = .ok (.enter 21 args) w := fun _ _ => by kernel_rfl
/-- What is there already is stored once more. -/
theorem doesV_same {ops : Array Oper} {E F : Act} {o : Oper} {w : World} {b : Nat} {x : Val} {t u : Tmp} (h : Bx w b x) (ho : o.op = .store 32 (.tmp t) (.tmp u)) (hd : o.dst = none) (ht : Reg.slot E t = .pointer (some ⟨b, 0, none⟩)) (hu : Reg.slot E u = x.v)
    (hw : Region.wanted o (yielded ops E.tmps) = true) : Reg.DoesV Tryd.prog ops E F o w := by
  unfold Reg.DoesV
  rw [if_pos hw]
  unfold Oper.wp
  rw [ev_store h ho ht hu]
  refine ⟨undef, rfl, by rw [hd]; rfl, ⟨rfl, rfl, rfl, by rw [put3_size]; exact Nat.le_refl _, fun k _ => ?_⟩⟩
  by_cases hk : k = b
  · subst hk
    exact (h.put x).trans h.symm
  · simp only [put3]
    rw [Below.heap_setCell _ _ _ _ (by exact hk), Below.heap_setCell _ _ _ _ (by exact hk), Below.heap_setCell _ _ _ _ (by exact hk)]
/-- cutValue, at its return. -/
theorem cut_ret {R : Ending → World → Prop} {F : Act} {w : World} {b : Nat} {a : Val} {r : ByteArray} {ok : Bool} (hb : Bx w b a) (h2 : Reg.slot F 2 = .pointer (some ⟨b, 0, none⟩)) (h3 : Reg.slot F 3 = .string r) (h4 : Reg.slot F 4 = .bool ok) (hd : F.defers = [])
    (hR : R (.returned (.tuple #[a.v, .string r, .bool ok])) w) : bodyPost Tryd.prog Tryd.f18 R .ret F w := by
  have c0 := hb.cell0
  have c1 := hb.cell1
  have c2 := hb.cell2
  refine bodyPost_ret (v := .tuple #[a.v, .string r, .bool ok]) ?_ hd hR
  have h2' : F.tmps[2]?.getD undef = .pointer (some ⟨b, 0, none⟩) := by simpa [Reg.slot] using h2
  have h3' : F.tmps[3]?.getD undef = .string r := by simpa [Reg.slot] using h3
  have h4' : F.tmps[4]?.getD undef = .bool ok := by simpa [Reg.slot] using h4
  simp [results, Tryd.results18, h2', h3', h4', go_sem, c0, c1, c2]

/-- A value, if it may be. -/
def chk (x : Val) (r : List UInt8) : Option (Val × List UInt8) := if mayB x then some (x, r) else none
theorem chk_cond (x : Val) (r : List UInt8) : chk x r = cond (mayB x) (some (x, r)) none := by unfold chk; cases mayB x <;> rfl
/-- The value that some bytes begin with, and what is behind it. -/
def cut1 : List UInt8 → Option (Val × List UInt8)
  | [] => none
  | t :: r =>
    if t = 1 then chk nl r
    else if t = 2 then (if r.length < 1 then none else chk ⟨1, numB (r.take 1), emp⟩ (r.drop 1))
    else if t = 3 then (if r.length < 8 then none else chk ⟨2, (numB (r.take 8) : Int) - 9223372036854775808, emp⟩ (r.drop 8))
    else if t = 4 then (match cutT r with | none => none | some (x, q) => chk ⟨3, 0, ⟨x.toArray⟩⟩ q)
    else none
theorem cut1_1 (r : List UInt8) : cut1 (UInt8.ofNat 1 :: r) = chk nl r := rfl
theorem cut1_2s (r : List UInt8) (h : r.length < 1) : cut1 (UInt8.ofNat 2 :: r) = none := by
  show (if r.length < 1 then none else _) = _
  rw [if_pos h]
theorem cut1_2 (r : List UInt8) (h : ¬ r.length < 1) : cut1 (UInt8.ofNat 2 :: r) = chk ⟨1, numB (r.take 1), emp⟩ (r.drop 1) := by
  show (if r.length < 1 then none else _) = _
  rw [if_neg h]
theorem cut1_3s (r : List UInt8) (h : r.length < 8) : cut1 (UInt8.ofNat 3 :: r) = none := by
  show (if r.length < 8 then none else _) = _
  rw [if_pos h]
theorem cut1_3 (r : List UInt8) (h : ¬ r.length < 8) : cut1 (UInt8.ofNat 3 :: r) = chk ⟨2, (numB (r.take 8) : Int) - 9223372036854775808, emp⟩ (r.drop 8) := by
  show (if r.length < 8 then none else _) = _
  rw [if_neg h]
theorem cut1_4s (r : List UInt8) (h : cutT r = none) : cut1 (UInt8.ofNat 4 :: r) = none := by
  show (match cutT r with | none => none | some (x, q) => chk ⟨3, 0, ⟨x.toArray⟩⟩ q) = _
  rw [h]
theorem cut1_4 (r x q : List UInt8) (h : cutT r = some (x, q)) : cut1 (UInt8.ofNat 4 :: r) = chk ⟨3, 0, ⟨x.toArray⟩⟩ q := by
  show (match cutT r with | none => none | some (x, q) => chk ⟨3, 0, ⟨x.toArray⟩⟩ q) = _
  rw [h]
theorem cut1_o (t : UInt8) (r : List UInt8) (h1 : t ≠ 1) (h2 : t ≠ 2) (h3 : t ≠ 3) (h4 : t ≠ 4) : cut1 (t :: r) = none := by
  rw [cut1, if_neg h1, if_neg h2, if_neg h3, if_neg h4]
/-- What cutValue answers. -/
def CutVPost (l : List UInt8) (w : World) (e : Ending) (w' : World) : Prop :=
  Below w.heap.size w w' ∧ ∃ x r ok, e = .returned (.tuple #[x.v, .string r, .bool ok]) ∧ cut1 l = cond ok (some (x, r.data.toList)) none

theorem below_drew (w : World) (o : Obj) : Below w.heap.size w (w.alloc o).drew := ⟨(below_one w o).os, (below_one w o).tape, (below_one w o).output, (below_one w o).size, (below_one w o).block⟩
theorem w64_small (n : Int) (h0 : -9223372036854775808 ≤ n) (h : n ≤ 9223372036854775807) : wrap64 n = n := by unfold wrap64; omega
theorem w_long (u : Nat) (h : u < 18446744073709551616) : wrap64 (IntKind.u64.wrap ((u : Int) - 9223372036854775808)) = (u : Int) - 9223372036854775808 := by
  rw [IntKind.wrap_u64]
  unfold wrap64
  omega
theorem w_short : wrap64 (IntKind.u64.wrap (-9223372036854775808)) = -9223372036854775808 := by
  rw [IntKind.wrap_u64]
  unfold wrap64
  omega
theorem kind_of (t : UInt8) : wrap64 (wrap64 (t.toNat : Int) - 1) = (t.toNat : Int) - 1 := by
  have := t.toNat_lt
  have e := w64_small (t.toNat : Int) (by omega) (by omega)
  rw [e]
  exact w64_small _ (by omega) (by omega)
theorem cons_of (s : ByteArray) (h : 0 < s.size) : s.data.toList = s[0] :: s.data.toList.drop 1 := by
  have := List.drop_eq_getElem_cons (l := s.data.toList) (i := 0) h
  exact this
theorem t_is (t : UInt8) (k : Nat) (hk : k < 256) (h : (t.toNat : Int) - 1 = (k : Int) - 1) : t = UInt8.ofNat k := UInt8.toNat_inj.1 (by rw [UInt8.toNat_ofNat']; omega)
theorem Bx.set1 {w : World} {b : Nat} {x : Val} (h : Bx w b x) (n : Int) : Bx (w.setCell ⟨b, 1, none⟩ (.int .i64 n)) b ⟨x.k, n, x.s⟩ := by
  unfold Bx at h
  simp [Bx, World.setCell, Array.getElem?_modify, h]
theorem Bx.set2 {w : World} {b : Nat} {x : Val} (h : Bx w b x) (s : ByteArray) : Bx (w.setCell ⟨b, 2, none⟩ (.string s)) b ⟨x.k, x.n, s⟩ := by
  unfold Bx at h
  simp [Bx, World.setCell, Array.getElem?_modify, h]
theorem ext1 (s : ByteArray) : (s.extract 1 s.size).data.toList = s.data.toList.drop 1 := by rw [extract_drop]

set_option maxHeartbeats 4000000 in
theorem cutValue_null (s : ByteArray) (w : World) (hs : s.size ≤ 500000) (h1 : 0 < s.size) (hk : (s[0].toNat : Int) - 1 = 0) : Calls Tryd.prog 18 #[.string s] w (CutVPost s.data.toList w) := by
  have hq := kind_of s[0]
  rw [hk] at hq
  have Hq : Hid (wrap64 (wrap64 (s[0].toNat : Int) - 1) = 0) := hq
  have Hl := Lib.hid (cons_of s h1)
  have Ht := Lib.hid hk
  clear hq hk
  have Hex := Lib.hid (ext1 s)
  generalize hrr : s.extract 1 s.size = rs at Hex
  have Hrr := Lib.hid hrr
  clear hrr
  go_enter Tryd.func18, Tryd.ntmps18
  go_wp2_with fail
  go_region
  rw [Hq.out, Hrr.out]
  have bx : Bx (w.alloc (.cells #[.int .i64 0, .int .i64 0, .string emp] 32)).drew w.heap.size ⟨0, 0, emp⟩ := Bx.new w ⟨0, 0, emp⟩
  have hb := below_drew w (.cells #[.int .i64 0, .int .i64 0, .string emp] 32)
  have hsz : w.heap.size < (w.alloc (.cells #[.int .i64 0, .int .i64 0, .string emp] 32)).drew.heap.size := bx.lt
  generalize (w.alloc (.cells #[.int .i64 0, .int .i64 0, .string emp] 32)).drew = w1 at bx hb hsz ⊢
  have c0 := bx.cell0
  have c1 := bx.cell1
  have c2 := bx.cell2
  have f0 := bx.frozen 0
  have f1 := bx.frozen 1
  have f2 := bx.frozen 2
  simp only at c0 c1 c2
  go_wp2_with fail
  refine Reg.wp_region_late mixed (by kernel_rfl) [(49, (⟨0, 0, emp⟩ : Val).v), (50, .string rs), (51, .bool true), (52, .bool true), (53, (⟨0, 0, emp⟩ : Val).v), (54, .bool (mayB (⟨0, 0, emp⟩ : Val))), (55, .bool (mayB (⟨0, 0, emp⟩ : Val)))] [(3, .string rs), (4, .bool (mayB (⟨0, 0, emp⟩ : Val)))] (fun i => i == 1 || i == 2) 56 rfl (by kernel_rfl) ?_ ?_
  · intro E F hE hF w' hB'
    have hbx := bx.after hB'
    refine ⟨?_, ?_, ?_, ?_, ?_, ?_, ?_, ?_, ?_, ?_, trivial⟩
    · exact Reg.doesV_val (ev_load hbx rfl (by rw [hF]; kernel_rfl)) (by rw [hF]; kernel_rfl) (by rw [hF]; kernel_rfl)
    · exact Reg.doesV_val (ev_move rfl) (by rw [hE]; kernel_rfl) (by rw [hE, hF]; kernel_rfl)
    · exact Reg.doesV_val (ev_move rfl) (by rw [hE]; kernel_rfl) (by rw [hE, hF]; kernel_rfl)
    · exact Reg.doesV_val (ev_move rfl) (by rw [hF]; kernel_rfl) (by rw [hF]; kernel_rfl)
    · exact Reg.doesV_val (ev_load hbx rfl (by rw [hF]; kernel_rfl)) (by rw [hF]; kernel_rfl) (by rw [hF]; kernel_rfl)
    · exact Reg.doesV_call (may_c (⟨0, 0, emp⟩ : Val) w' (by unfold maxLen; show (0 : Nat) ≤ _; omega)) (ev_call enMay rfl (by rw [hF]; kernel_rfl)) (by rw [hF]; kernel_rfl) (by rw [hF]; kernel_rfl)
    · exact Reg.doesV_val (ev_pick true rfl (by rw [hF]; kernel_rfl)) (by rw [hF]; kernel_rfl) (by rw [hF]; kernel_rfl)
    · exact doesV_same hbx rfl rfl (by rw [hF]; kernel_rfl) (by rw [hF]; kernel_rfl) (by rw [hF]; kernel_rfl)
    · exact Reg.doesV_val (ev_assign rfl) (by rw [hF]; kernel_rfl) (by rw [hF]; kernel_rfl)
    · exact Reg.doesV_val (ev_assign rfl) (by rw [hF]; kernel_rfl) (by rw [hF]; kernel_rfl)
  · intro w9 hB'
    have hbx := bx.after hB'
    have hbw := hb.trans (hB'.mono hb.size)
    clear hB'
    simp only [List.cons_append, List.nil_append, Reg.putAll, Act.put, List.setIfInBounds_toArray, List.set_cons_zero, List.set_cons_succ]
    go_wp2
    exact cut_ret hbx rfl rfl rfl rfl ⟨hbw, (⟨0, 0, emp⟩ : Val), _, _, rfl, (by rw [Hl.out, t_is s[0] 1 (by omega) Ht.out, ← Hex.out]; exact chk_cond _ _)⟩

set_option maxHeartbeats 4000000 in
theorem cutValue_bool (s : ByteArray) (w : World) (hs : s.size ≤ 500000) (h1 : 0 < s.size) (hk : (s[0].toNat : Int) - 1 = 1) : Calls Tryd.prog 18 #[.string s] w (CutVPost s.data.toList w) := by
  have hq := kind_of s[0]
  rw [hk] at hq
  have Hq : Hid (wrap64 (wrap64 (s[0].toNat : Int) - 1) = 1) := hq
  have Hl := Lib.hid (cons_of s h1)
  have Ht := Lib.hid hk
  clear hq hk
  have Hex := Lib.hid (ext1 s)
  generalize hrr : s.extract 1 s.size = rs at Hex
  have Hrr := Lib.hid hrr
  clear hrr
  go_enter Tryd.func18, Tryd.ntmps18
  go_wp2_with fail
  go_region
  rw [Hq.out, Hrr.out]
  have bx : Bx (w.alloc (.cells #[.int .i64 1, .int .i64 0, .string emp] 32)).drew w.heap.size ⟨1, 0, emp⟩ := Bx.new w ⟨1, 0, emp⟩
  have hb := below_drew w (.cells #[.int .i64 1, .int .i64 0, .string emp] 32)
  have hsz : w.heap.size < (w.alloc (.cells #[.int .i64 1, .int .i64 0, .string emp] 32)).drew.heap.size := bx.lt
  generalize (w.alloc (.cells #[.int .i64 1, .int .i64 0, .string emp] 32)).drew = w1 at bx hb hsz ⊢
  have c0 := bx.cell0
  have c1 := bx.cell1
  have c2 := bx.cell2
  have f0 := bx.frozen 0
  have f1 := bx.frozen 1
  have f2 := bx.frozen 2
  simp only at c0 c1 c2
  have hrs : rs.size = rs.data.toList.length := rfl
  have Hrs := Lib.hid hrs
  clear hrs
  by_cases hc : rs.size < 1
  · go_wp2_with fail
    refine (cutBits_short rs 1 w1 (by omega) hc).mono ?_
    rintro e w2 ⟨rfl, hb2⟩
    have bx2 := bx.after hb2
    have hbw2 := hb.trans (hb2.mono hb.size)
    clear bx hb hb2 c0 c1 c2 f0 f1 f2
    have c0 := bx2.cell0
    have c1 := bx2.cell1
    have c2 := bx2.cell2
    have f0 := bx2.frozen 0
    have f1 := bx2.frozen 1
    have f2 := bx2.frozen 2
    simp only at c0 c1 c2
    go_wp2_with fail
    have bx3 := bx2.set1 (0)
    have hb3 : Below w.heap.size w (w2.setCell ⟨w.heap.size, 1, none⟩ (.int .i64 (0))) := hbw2.setCell (Nat.le_refl _) _
    refine Reg.wp_region_late mixed (by kernel_rfl) [(49, (⟨1, 0, emp⟩ : Val).v), (50, .string emp), (51, .bool false), (52, .bool false), (53, undef), (54, undef), (55, .bool false)] [(3, .string emp), (4, .bool false)] (fun i => i == 1 || i == 2) 56 rfl (by kernel_rfl) ?_ ?_
    · intro E F hE hF w' hB'
      have hbx := bx3.after hB'
      refine ⟨?_, ?_, ?_, ?_, ?_, ?_, ?_, ?_, ?_, ?_, trivial⟩
      · exact Reg.doesV_val (ev_load hbx rfl (by rw [hF]; kernel_rfl)) (by rw [hF]; kernel_rfl) (by rw [hF]; kernel_rfl)
      · exact Reg.doesV_val (ev_move rfl) (by rw [hE]; kernel_rfl) (by rw [hE, hF]; kernel_rfl)
      · exact Reg.doesV_val (ev_move rfl) (by rw [hE]; kernel_rfl) (by rw [hE, hF]; kernel_rfl)
      · exact Reg.doesV_val (ev_move rfl) (by rw [hF]; kernel_rfl) (by rw [hF]; kernel_rfl)
      · exact Reg.doesV_skip (by rw [hF]; kernel_rfl) (by rw [hF]; kernel_rfl)
      · exact Reg.doesV_skip (by rw [hF]; kernel_rfl) (by rw [hF]; kernel_rfl)
      · exact Reg.doesV_val (ev_pick false rfl (by rw [hF]; kernel_rfl)) (by rw [hF]; kernel_rfl) (by rw [hF]; kernel_rfl)
      · exact doesV_same hbx rfl rfl (by rw [hF]; kernel_rfl) (by rw [hF]; kernel_rfl) (by rw [hF]; kernel_rfl)
      · exact Reg.doesV_val (ev_assign rfl) (by rw [hF]; kernel_rfl) (by rw [hF]; kernel_rfl)
      · exact Reg.doesV_val (ev_assign rfl) (by rw [hF]; kernel_rfl) (by rw [hF]; kernel_rfl)
    · intro w9 hB'
      have hbx := bx3.after hB'
      have hbw := hb3.trans (hB'.mono hb3.size)
      clear hB'
      simp only [List.cons_append, List.nil_append, Reg.putAll, Act.put, List.setIfInBounds_toArray, List.set_cons_zero, List.set_cons_succ]
      go_wp2
      exact cut_ret hbx rfl rfl rfl rfl ⟨hbw, (⟨1, 0, emp⟩ : Val), _, _, rfl, (by rw [Hl.out, t_is s[0] 2 (by omega) Ht.out, ← Hex.out]; exact cut1_2s _ (by have := Hrs.out; omega))⟩
  · have hu : numB (rs.data.toList.take 1) < 256 ^ 1 := by
      have h2 := numB_lt (rs.data.toList.take 1)
      have h3 : (rs.data.toList.take 1).length ≤ 1 := by rw [List.length_take]; omega
      exact Nat.lt_of_lt_of_le h2 (Nat.pow_le_pow_right (by omega) h3)
    obtain ⟨u, hq⟩ : ∃ u, numB (rs.data.toList.take 1) = u := ⟨_, rfl⟩
    rw [hq] at hu
    have Hu := Lib.hid hq
    clear hq
    have hu2 : u < 256 := hu
    clear hu
    go_wp2_with fail
    refine (cutBits_long rs 1 w1 (by omega) (by omega) (by have h4 := congrArg List.length Hex.out; rw [List.length_drop] at h4; have h5 : s.data.toList.length = s.size := rfl; have h6 := Hrs.out; omega)).mono ?_
    rintro e w2 ⟨rfl, hb2⟩
    rw [Hu.out]
    have Hq2 := Lib.hid (show (⟨(rs.data.toList.drop 1).toArray⟩ : ByteArray).data.toList = rs.data.toList.drop 1 from rfl)
    generalize (⟨(rs.data.toList.drop 1).toArray⟩ : ByteArray) = q at Hq2 ⊢
    have bx2 := bx.after hb2
    have hbw2 := hb.trans (hb2.mono hb.size)
    clear bx hb hb2 c0 c1 c2 f0 f1 f2
    have c0 := bx2.cell0
    have c1 := bx2.cell1
    have c2 := bx2.cell2
    have f0 := bx2.frozen 0
    have f1 := bx2.frozen 1
    have f2 := bx2.frozen 2
    simp only at c0 c1 c2
    go_wp2_with fail
    have bx3 := bx2.set1 ((u : Int))
    have hb3 : Below w.heap.size w (w2.setCell ⟨w.heap.size, 1, none⟩ (.int .i64 ((u : Int)))) := hbw2.setCell (Nat.le_refl _) _
    refine Reg.wp_region_late mixed (by kernel_rfl) [(49, (⟨1, (u : Int), emp⟩ : Val).v), (50, .string q), (51, .bool true), (52, .bool true), (53, (⟨1, (u : Int), emp⟩ : Val).v), (54, .bool (mayB (⟨1, (u : Int), emp⟩ : Val))), (55, .bool (mayB (⟨1, (u : Int), emp⟩ : Val)))] [(3, .string q), (4, .bool (mayB (⟨1, (u : Int), emp⟩ : Val)))] (fun i => i == 1 || i == 2) 56 rfl (by kernel_rfl) ?_ ?_
    · intro E F hE hF w' hB'
      have hbx := bx3.after hB'
      refine ⟨?_, ?_, ?_, ?_, ?_, ?_, ?_, ?_, ?_, ?_, trivial⟩
      · exact Reg.doesV_val (ev_load hbx rfl (by rw [hF]; kernel_rfl)) (by rw [hF]; kernel_rfl) (by rw [hF]; kernel_rfl)
      · exact Reg.doesV_val (ev_move rfl) (by rw [hE]; kernel_rfl) (by rw [hE, hF]; kernel_rfl)
      · exact Reg.doesV_val (ev_move rfl) (by rw [hE]; kernel_rfl) (by rw [hE, hF]; kernel_rfl)
      · exact Reg.doesV_val (ev_move rfl) (by rw [hF]; kernel_rfl) (by rw [hF]; kernel_rfl)
      · exact Reg.doesV_val (ev_load hbx rfl (by rw [hF]; kernel_rfl)) (by rw [hF]; kernel_rfl) (by rw [hF]; kernel_rfl)
      · exact Reg.doesV_call (may_c (⟨1, (u : Int), emp⟩ : Val) w' (by unfold maxLen; show (0 : Nat) ≤ _; omega)) (ev_call enMay rfl (by rw [hF]; kernel_rfl)) (by rw [hF]; kernel_rfl) (by rw [hF]; kernel_rfl)
      · exact Reg.doesV_val (ev_pick true rfl (by rw [hF]; kernel_rfl)) (by rw [hF]; kernel_rfl) (by rw [hF]; kernel_rfl)
      · exact doesV_same hbx rfl rfl (by rw [hF]; kernel_rfl) (by rw [hF]; kernel_rfl) (by rw [hF]; kernel_rfl)
      · exact Reg.doesV_val (ev_assign rfl) (by rw [hF]; kernel_rfl) (by rw [hF]; kernel_rfl)
      · exact Reg.doesV_val (ev_assign rfl) (by rw [hF]; kernel_rfl) (by rw [hF]; kernel_rfl)
    · intro w9 hB'
      have hbx := bx3.after hB'
      have hbw := hb3.trans (hB'.mono hb3.size)
      clear hB'
      simp only [List.cons_append, List.nil_append, Reg.putAll, Act.put, List.setIfInBounds_toArray, List.set_cons_zero, List.set_cons_succ]
      go_wp2
      exact cut_ret hbx rfl rfl rfl rfl ⟨hbw, (⟨1, (u : Int), emp⟩ : Val), _, _, rfl, (by rw [Hl.out, t_is s[0] 2 (by omega) Ht.out, ← Hex.out, ← Hu.out, cut1_2 _ (by have := Hrs.out; omega), ← Hq2.out]; exact chk_cond _ _)⟩

set_option maxHeartbeats 4000000 in
theorem cutValue_int (s : ByteArray) (w : World) (hs : s.size ≤ 500000) (h1 : 0 < s.size) (hk : (s[0].toNat : Int) - 1 = 2) : Calls Tryd.prog 18 #[.string s] w (CutVPost s.data.toList w) := by
  have hq := kind_of s[0]
  rw [hk] at hq
  have Hq : Hid (wrap64 (wrap64 (s[0].toNat : Int) - 1) = 2) := hq
  have Hl := Lib.hid (cons_of s h1)
  have Ht := Lib.hid hk
  clear hq hk
  have Hex := Lib.hid (ext1 s)
  generalize hrr : s.extract 1 s.size = rs at Hex
  have Hrr := Lib.hid hrr
  clear hrr
  go_enter Tryd.func18, Tryd.ntmps18
  go_wp2_with fail
  go_region
  rw [Hq.out, Hrr.out]
  have bx : Bx (w.alloc (.cells #[.int .i64 2, .int .i64 0, .string emp] 32)).drew w.heap.size ⟨2, 0, emp⟩ := Bx.new w ⟨2, 0, emp⟩
  have hb := below_drew w (.cells #[.int .i64 2, .int .i64 0, .string emp] 32)
  have hsz : w.heap.size < (w.alloc (.cells #[.int .i64 2, .int .i64 0, .string emp] 32)).drew.heap.size := bx.lt
  generalize (w.alloc (.cells #[.int .i64 2, .int .i64 0, .string emp] 32)).drew = w1 at bx hb hsz ⊢
  have c0 := bx.cell0
  have c1 := bx.cell1
  have c2 := bx.cell2
  have f0 := bx.frozen 0
  have f1 := bx.frozen 1
  have f2 := bx.frozen 2
  simp only at c0 c1 c2
  have hrs : rs.size = rs.data.toList.length := rfl
  have Hrs := Lib.hid hrs
  clear hrs
  by_cases hc : rs.size < 8
  · go_wp2_with fail
    refine (cutBits_short rs 8 w1 (by omega) hc).mono ?_
    rintro e w2 ⟨rfl, hb2⟩
    have bx2 := bx.after hb2
    have hbw2 := hb.trans (hb2.mono hb.size)
    clear bx hb hb2 c0 c1 c2 f0 f1 f2
    have c0 := bx2.cell0
    have c1 := bx2.cell1
    have c2 := bx2.cell2
    have f0 := bx2.frozen 0
    have f1 := bx2.frozen 1
    have f2 := bx2.frozen 2
    simp only at c0 c1 c2
    go_wp2_with fail
    rw [w_short]
    have bx3 := bx2.set1 ((-9223372036854775808))
    have hb3 : Below w.heap.size w (w2.setCell ⟨w.heap.size, 1, none⟩ (.int .i64 ((-9223372036854775808)))) := hbw2.setCell (Nat.le_refl _) _
    refine Reg.wp_region_late mixed (by kernel_rfl) [(49, (⟨2, (-9223372036854775808), emp⟩ : Val).v), (50, .string emp), (51, .bool false), (52, .bool false), (53, undef), (54, undef), (55, .bool false)] [(3, .string emp), (4, .bool false)] (fun i => i == 1 || i == 2) 56 rfl (by kernel_rfl) ?_ ?_
    · intro E F hE hF w' hB'
      have hbx := bx3.after hB'
      refine ⟨?_, ?_, ?_, ?_, ?_, ?_, ?_, ?_, ?_, ?_, trivial⟩
      · exact Reg.doesV_val (ev_load hbx rfl (by rw [hF]; kernel_rfl)) (by rw [hF]; kernel_rfl) (by rw [hF]; kernel_rfl)
      · exact Reg.doesV_val (ev_move rfl) (by rw [hE]; kernel_rfl) (by rw [hE, hF]; kernel_rfl)
      · exact Reg.doesV_val (ev_move rfl) (by rw [hE]; kernel_rfl) (by rw [hE, hF]; kernel_rfl)
      · exact Reg.doesV_val (ev_move rfl) (by rw [hF]; kernel_rfl) (by rw [hF]; kernel_rfl)
      · exact Reg.doesV_skip (by rw [hF]; kernel_rfl) (by rw [hF]; kernel_rfl)
      · exact Reg.doesV_skip (by rw [hF]; kernel_rfl) (by rw [hF]; kernel_rfl)
      · exact Reg.doesV_val (ev_pick false rfl (by rw [hF]; kernel_rfl)) (by rw [hF]; kernel_rfl) (by rw [hF]; kernel_rfl)
      · exact doesV_same hbx rfl rfl (by rw [hF]; kernel_rfl) (by rw [hF]; kernel_rfl) (by rw [hF]; kernel_rfl)
      · exact Reg.doesV_val (ev_assign rfl) (by rw [hF]; kernel_rfl) (by rw [hF]; kernel_rfl)
      · exact Reg.doesV_val (ev_assign rfl) (by rw [hF]; kernel_rfl) (by rw [hF]; kernel_rfl)
    · intro w9 hB'
      have hbx := bx3.after hB'
      have hbw := hb3.trans (hB'.mono hb3.size)
      clear hB'
      simp only [List.cons_append, List.nil_append, Reg.putAll, Act.put, List.setIfInBounds_toArray, List.set_cons_zero, List.set_cons_succ]
      go_wp2
      exact cut_ret hbx rfl rfl rfl rfl ⟨hbw, (⟨2, (-9223372036854775808), emp⟩ : Val), _, _, rfl, (by rw [Hl.out, t_is s[0] 3 (by omega) Ht.out, ← Hex.out]; exact cut1_3s _ (by have := Hrs.out; omega))⟩
  · have hu : numB (rs.data.toList.take 8) < 256 ^ 8 := by
      have h2 := numB_lt (rs.data.toList.take 8)
      have h3 : (rs.data.toList.take 8).length ≤ 8 := by rw [List.length_take]; omega
      exact Nat.lt_of_lt_of_le h2 (Nat.pow_le_pow_right (by omega) h3)
    obtain ⟨u, hq⟩ : ∃ u, numB (rs.data.toList.take 8) = u := ⟨_, rfl⟩
    rw [hq] at hu
    have Hu := Lib.hid hq
    clear hq
    have hu2 : u < 18446744073709551616 := hu
    clear hu
    go_wp2_with fail
    refine (cutBits_long rs 8 w1 (by omega) (by omega) (by have h4 := congrArg List.length Hex.out; rw [List.length_drop] at h4; have h5 : s.data.toList.length = s.size := rfl; have h6 := Hrs.out; omega)).mono ?_
    rintro e w2 ⟨rfl, hb2⟩
    rw [Hu.out]
    have Hq2 := Lib.hid (show (⟨(rs.data.toList.drop 8).toArray⟩ : ByteArray).data.toList = rs.data.toList.drop 8 from rfl)
    generalize (⟨(rs.data.toList.drop 8).toArray⟩ : ByteArray) = q at Hq2 ⊢
    have bx2 := bx.after hb2
    have hbw2 := hb.trans (hb2.mono hb.size)
    clear bx hb hb2 c0 c1 c2 f0 f1 f2
    have c0 := bx2.cell0
    have c1 := bx2.cell1
    have c2 := bx2.cell2
    have f0 := bx2.frozen 0
    have f1 := bx2.frozen 1
    have f2 := bx2.frozen 2
    simp only at c0 c1 c2
    go_wp2_with fail
    rw [w_long u hu2]
    have bx3 := bx2.set1 ((u : Int) - 9223372036854775808)
    have hb3 : Below w.heap.size w (w2.setCell ⟨w.heap.size, 1, none⟩ (.int .i64 ((u : Int) - 9223372036854775808))) := hbw2.setCell (Nat.le_refl _) _
    refine Reg.wp_region_late mixed (by kernel_rfl) [(49, (⟨2, (u : Int) - 9223372036854775808, emp⟩ : Val).v), (50, .string q), (51, .bool true), (52, .bool true), (53, (⟨2, (u : Int) - 9223372036854775808, emp⟩ : Val).v), (54, .bool (mayB (⟨2, (u : Int) - 9223372036854775808, emp⟩ : Val))), (55, .bool (mayB (⟨2, (u : Int) - 9223372036854775808, emp⟩ : Val)))] [(3, .string q), (4, .bool (mayB (⟨2, (u : Int) - 9223372036854775808, emp⟩ : Val)))] (fun i => i == 1 || i == 2) 56 rfl (by kernel_rfl) ?_ ?_
    · intro E F hE hF w' hB'
      have hbx := bx3.after hB'
      refine ⟨?_, ?_, ?_, ?_, ?_, ?_, ?_, ?_, ?_, ?_, trivial⟩
      · exact Reg.doesV_val (ev_load hbx rfl (by rw [hF]; kernel_rfl)) (by rw [hF]; kernel_rfl) (by rw [hF]; kernel_rfl)
      · exact Reg.doesV_val (ev_move rfl) (by rw [hE]; kernel_rfl) (by rw [hE, hF]; kernel_rfl)
      · exact Reg.doesV_val (ev_move rfl) (by rw [hE]; kernel_rfl) (by rw [hE, hF]; kernel_rfl)
      · exact Reg.doesV_val (ev_move rfl) (by rw [hF]; kernel_rfl) (by rw [hF]; kernel_rfl)
      · exact Reg.doesV_val (ev_load hbx rfl (by rw [hF]; kernel_rfl)) (by rw [hF]; kernel_rfl) (by rw [hF]; kernel_rfl)
      · exact Reg.doesV_call (may_c (⟨2, (u : Int) - 9223372036854775808, emp⟩ : Val) w' (by unfold maxLen; show (0 : Nat) ≤ _; omega)) (ev_call enMay rfl (by rw [hF]; kernel_rfl)) (by rw [hF]; kernel_rfl) (by rw [hF]; kernel_rfl)
      · exact Reg.doesV_val (ev_pick true rfl (by rw [hF]; kernel_rfl)) (by rw [hF]; kernel_rfl) (by rw [hF]; kernel_rfl)
      · exact doesV_same hbx rfl rfl (by rw [hF]; kernel_rfl) (by rw [hF]; kernel_rfl) (by rw [hF]; kernel_rfl)
      · exact Reg.doesV_val (ev_assign rfl) (by rw [hF]; kernel_rfl) (by rw [hF]; kernel_rfl)
      · exact Reg.doesV_val (ev_assign rfl) (by rw [hF]; kernel_rfl) (by rw [hF]; kernel_rfl)
    · intro w9 hB'
      have hbx := bx3.after hB'
      have hbw := hb3.trans (hB'.mono hb3.size)
      clear hB'
      simp only [List.cons_append, List.nil_append, Reg.putAll, Act.put, List.setIfInBounds_toArray, List.set_cons_zero, List.set_cons_succ]
      go_wp2
      exact cut_ret hbx rfl rfl rfl rfl ⟨hbw, (⟨2, (u : Int) - 9223372036854775808, emp⟩ : Val), _, _, rfl, (by rw [Hl.out, t_is s[0] 3 (by omega) Ht.out, ← Hex.out, ← Hu.out, cut1_3 _ (by have := Hrs.out; omega), ← Hq2.out]; exact chk_cond _ _)⟩

set_option maxHeartbeats 4000000 in
theorem cutValue_text (s : ByteArray) (w : World) (hs : s.size ≤ 500000) (h1 : 0 < s.size) (hk : (s[0].toNat : Int) - 1 = 3) : Calls Tryd.prog 18 #[.string s] w (CutVPost s.data.toList w) := by
  have hq := kind_of s[0]
  rw [hk] at hq
  have Hq : Hid (wrap64 (wrap64 (s[0].toNat : Int) - 1) = 3) := hq
  have Hl := Lib.hid (cons_of s h1)
  have Ht := Lib.hid hk
  clear hq hk
  have Hex := Lib.hid (ext1 s)
  generalize hrr : s.extract 1 s.size = rs at Hex
  have Hrr := Lib.hid hrr
  clear hrr
  go_enter Tryd.func18, Tryd.ntmps18
  go_wp2_with fail
  go_region
  rw [Hq.out, Hrr.out]
  have bx : Bx (w.alloc (.cells #[.int .i64 3, .int .i64 0, .string emp] 32)).drew w.heap.size ⟨3, 0, emp⟩ := Bx.new w ⟨3, 0, emp⟩
  have hb := below_drew w (.cells #[.int .i64 3, .int .i64 0, .string emp] 32)
  have hsz : w.heap.size < (w.alloc (.cells #[.int .i64 3, .int .i64 0, .string emp] 32)).drew.heap.size := bx.lt
  generalize (w.alloc (.cells #[.int .i64 3, .int .i64 0, .string emp] 32)).drew = w1 at bx hb hsz ⊢
  have c0 := bx.cell0
  have c1 := bx.cell1
  have c2 := bx.cell2
  have f0 := bx.frozen 0
  have f1 := bx.frozen 1
  have f2 := bx.frozen 2
  simp only at c0 c1 c2
  have hrs : rs.size ≤ 500000 := by
    have h4 := congrArg List.length Hex.out
    rw [List.length_drop] at h4
    have h5 : s.data.toList.length = s.size := rfl
    have h6 : rs.data.toList.length = rs.size := rfl
    omega
  go_wp2_with fail
  refine (cutText_c rs w1 hrs).mono ?_
  rintro e w2 ⟨hb2, hcut⟩
  rcases hcut with ⟨hcut, rfl⟩ | ⟨x, q, hcut, hxl, rfl⟩
  · have Hcut := Lib.hid hcut
    clear hcut
    have bx2 := bx.after hb2
    have hbw2 := hb.trans (hb2.mono hb.size)
    clear bx hb hb2 c0 c1 c2 f0 f1 f2
    have c0 := bx2.cell0
    have c1 := bx2.cell1
    have c2 := bx2.cell2
    have f0 := bx2.frozen 0
    have f1 := bx2.frozen 1
    have f2 := bx2.frozen 2
    simp only at c0 c1 c2
    go_wp2_with fail
    have bx3 := bx2.set2 emp
    have hb3 : Below w.heap.size w (w2.setCell ⟨w.heap.size, 2, none⟩ (.string emp)) := hbw2.setCell (Nat.le_refl _) _
    refine Reg.wp_region_late mixed (by kernel_rfl) [(49, (⟨3, 0, emp⟩ : Val).v), (50, .string emp), (51, .bool false), (52, .bool false), (53, undef), (54, undef), (55, .bool false)] [(3, .string emp), (4, .bool false)] (fun i => i == 1 || i == 2) 56 rfl (by kernel_rfl) ?_ ?_
    · intro E F hE hF w' hB'
      have hbx := bx3.after hB'
      refine ⟨?_, ?_, ?_, ?_, ?_, ?_, ?_, ?_, ?_, ?_, trivial⟩
      · exact Reg.doesV_val (ev_load hbx rfl (by rw [hF]; kernel_rfl)) (by rw [hF]; kernel_rfl) (by rw [hF]; kernel_rfl)
      · exact Reg.doesV_val (ev_move rfl) (by rw [hE]; kernel_rfl) (by rw [hE, hF]; kernel_rfl)
      · exact Reg.doesV_val (ev_move rfl) (by rw [hE]; kernel_rfl) (by rw [hE, hF]; kernel_rfl)
      · exact Reg.doesV_val (ev_move rfl) (by rw [hF]; kernel_rfl) (by rw [hF]; kernel_rfl)
      · exact Reg.doesV_skip (by rw [hF]; kernel_rfl) (by rw [hF]; kernel_rfl)
      · exact Reg.doesV_skip (by rw [hF]; kernel_rfl) (by rw [hF]; kernel_rfl)
      · exact Reg.doesV_val (ev_pick false rfl (by rw [hF]; kernel_rfl)) (by rw [hF]; kernel_rfl) (by rw [hF]; kernel_rfl)
      · exact doesV_same hbx rfl rfl (by rw [hF]; kernel_rfl) (by rw [hF]; kernel_rfl) (by rw [hF]; kernel_rfl)
      · exact Reg.doesV_val (ev_assign rfl) (by rw [hF]; kernel_rfl) (by rw [hF]; kernel_rfl)
      · exact Reg.doesV_val (ev_assign rfl) (by rw [hF]; kernel_rfl) (by rw [hF]; kernel_rfl)
    · intro w9 hB'
      have hbx := bx3.after hB'
      have hbw := hb3.trans (hB'.mono hb3.size)
      clear hB'
      simp only [List.cons_append, List.nil_append, Reg.putAll, Act.put, List.setIfInBounds_toArray, List.set_cons_zero, List.set_cons_succ]
      go_wp2
      exact cut_ret hbx rfl rfl rfl rfl ⟨hbw, (⟨3, 0, emp⟩ : Val), _, _, rfl, (by rw [Hl.out, t_is s[0] 4 (by omega) Ht.out, ← Hex.out]; exact cut1_4s _ Hcut.out)⟩
  · have Hcut := Lib.hid hcut
    have hxs : (⟨x.toArray⟩ : ByteArray).size ≤ maxLen := by
      have h6 : rs.data.toList.length = rs.size := rfl
      have h7 : (⟨x.toArray⟩ : ByteArray).size = x.length := by simp [ByteArray.size]
      unfold maxLen
      omega
    have Hxs := Lib.hid hxs
    clear hcut hxs
    have Hq2 := Lib.hid (show (⟨q.toArray⟩ : ByteArray).data.toList = q from rfl)
    generalize (⟨q.toArray⟩ : ByteArray) = q1 at Hq2 ⊢
    have Hcut' : Hid (cutT rs.data.toList = some (x, q1.data.toList)) := by rw [Hq2.out]; exact Hcut.out
    clear Hcut Hq2
    have Hx2 : Hid (cut1 (UInt8.ofNat 4 :: rs.data.toList) = chk ⟨3, 0, ⟨x.toArray⟩⟩ q1.data.toList) := cut1_4 _ _ _ Hcut'.out
    clear Hcut'
    generalize (⟨x.toArray⟩ : ByteArray) = x1 at Hxs Hx2 ⊢
    have bx2 := bx.after hb2
    have hbw2 := hb.trans (hb2.mono hb.size)
    clear bx hb hb2 c0 c1 c2 f0 f1 f2
    have c0 := bx2.cell0
    have c1 := bx2.cell1
    have c2 := bx2.cell2
    have f0 := bx2.frozen 0
    have f1 := bx2.frozen 1
    have f2 := bx2.frozen 2
    simp only at c0 c1 c2
    go_wp2_with fail
    have bx3 := bx2.set2 x1
    have hb3 : Below w.heap.size w (w2.setCell ⟨w.heap.size, 2, none⟩ (.string x1)) := hbw2.setCell (Nat.le_refl _) _
    refine Reg.wp_region_late mixed (by kernel_rfl) [(49, (⟨3, 0, x1⟩ : Val).v), (50, .string q1), (51, .bool true), (52, .bool true), (53, (⟨3, 0, x1⟩ : Val).v), (54, .bool (mayB (⟨3, 0, x1⟩ : Val))), (55, .bool (mayB (⟨3, 0, x1⟩ : Val)))] [(3, .string q1), (4, .bool (mayB (⟨3, 0, x1⟩ : Val)))] (fun i => i == 1 || i == 2) 56 rfl (by kernel_rfl) ?_ ?_
    · intro E F hE hF w' hB'
      have hbx := bx3.after hB'
      refine ⟨?_, ?_, ?_, ?_, ?_, ?_, ?_, ?_, ?_, ?_, trivial⟩
      · exact Reg.doesV_val (ev_load hbx rfl (by rw [hF]; kernel_rfl)) (by rw [hF]; kernel_rfl) (by rw [hF]; kernel_rfl)
      · exact Reg.doesV_val (ev_move rfl) (by rw [hE]; kernel_rfl) (by rw [hE, hF]; kernel_rfl)
      · exact Reg.doesV_val (ev_move rfl) (by rw [hE]; kernel_rfl) (by rw [hE, hF]; kernel_rfl)
      · exact Reg.doesV_val (ev_move rfl) (by rw [hF]; kernel_rfl) (by rw [hF]; kernel_rfl)
      · exact Reg.doesV_val (ev_load hbx rfl (by rw [hF]; kernel_rfl)) (by rw [hF]; kernel_rfl) (by rw [hF]; kernel_rfl)
      · exact Reg.doesV_call (may_c (⟨3, 0, x1⟩ : Val) w' Hxs.out) (ev_call enMay rfl (by rw [hF]; kernel_rfl)) (by rw [hF]; kernel_rfl) (by rw [hF]; kernel_rfl)
      · exact Reg.doesV_val (ev_pick true rfl (by rw [hF]; kernel_rfl)) (by rw [hF]; kernel_rfl) (by rw [hF]; kernel_rfl)
      · exact doesV_same hbx rfl rfl (by rw [hF]; kernel_rfl) (by rw [hF]; kernel_rfl) (by rw [hF]; kernel_rfl)
      · exact Reg.doesV_val (ev_assign rfl) (by rw [hF]; kernel_rfl) (by rw [hF]; kernel_rfl)
      · exact Reg.doesV_val (ev_assign rfl) (by rw [hF]; kernel_rfl) (by rw [hF]; kernel_rfl)
    · intro w9 hB'
      have hbx := bx3.after hB'
      have hbw := hb3.trans (hB'.mono hb3.size)
      clear hB'
      simp only [List.cons_append, List.nil_append, Reg.putAll, Act.put, List.setIfInBounds_toArray, List.set_cons_zero, List.set_cons_succ]
      go_wp2
      exact cut_ret hbx rfl rfl rfl rfl ⟨hbw, (⟨3, 0, x1⟩ : Val), _, _, rfl, (by rw [Hl.out, t_is s[0] 4 (by omega) Ht.out, ← Hex.out, Hx2.out]; exact chk_cond _ _)⟩

set_option maxHeartbeats 4000000 in
theorem cutValue_other (s : ByteArray) (w : World) (hs : s.size ≤ 500000) (h1 : 0 < s.size) (o0 : (((s[0].toNat : Int) - 1) == 0) = false) (o1 : (((s[0].toNat : Int) - 1) == 1) = false) (o2 : (((s[0].toNat : Int) - 1) == 2) = false) (o3 : (((s[0].toNat : Int) - 1) == 3) = false) : Calls Tryd.prog 18 #[.string s] w (CutVPost s.data.toList w) := by
  have hq := kind_of s[0]
  have Hq : Hid (wrap64 (wrap64 (s[0].toNat : Int) - 1) = ((s[0].toNat : Int) - 1)) := hq
  have Hl := Lib.hid (cons_of s h1)
  clear hq
  have Hex := Lib.hid (ext1 s)
  generalize hrr : s.extract 1 s.size = rs at Hex
  have Hrr := Lib.hid hrr
  clear hrr
  go_enter Tryd.func18, Tryd.ntmps18
  go_wp2_with fail
  go_region
  rw [Hq.out, Hrr.out]
  have bx : Bx (w.alloc (.cells #[.int .i64 ((s[0].toNat : Int) - 1), .int .i64 0, .string emp] 32)).drew w.heap.size ⟨((s[0].toNat : Int) - 1), 0, emp⟩ := Bx.new w ⟨((s[0].toNat : Int) - 1), 0, emp⟩
  have hb := below_drew w (.cells #[.int .i64 ((s[0].toNat : Int) - 1), .int .i64 0, .string emp] 32)
  have hsz : w.heap.size < (w.alloc (.cells #[.int .i64 ((s[0].toNat : Int) - 1), .int .i64 0, .string emp] 32)).drew.heap.size := bx.lt
  generalize (w.alloc (.cells #[.int .i64 ((s[0].toNat : Int) - 1), .int .i64 0, .string emp] 32)).drew = w1 at bx hb hsz ⊢
  have c0 := bx.cell0
  have c1 := bx.cell1
  have c2 := bx.cell2
  have f0 := bx.frozen 0
  have f1 := bx.frozen 1
  have f2 := bx.frozen 2
  simp only at c0 c1 c2
  go_wp2_with fail
  refine Reg.wp_region_late mixed (by kernel_rfl) [(49, (⟨(s[0].toNat : Int) - 1, 0, emp⟩ : Val).v), (50, .string rs), (51, .bool false), (52, .bool false), (53, undef), (54, undef), (55, .bool false)] [(3, .string rs), (4, .bool false)] (fun i => i == 1 || i == 2) 56 rfl (by kernel_rfl) ?_ ?_
  · intro E F hE hF w' hB'
    have hbx := bx.after hB'
    refine ⟨?_, ?_, ?_, ?_, ?_, ?_, ?_, ?_, ?_, ?_, trivial⟩
    · exact Reg.doesV_val (ev_load hbx rfl (by rw [hF]; kernel_rfl)) (by rw [hF]; kernel_rfl) (by rw [hF]; kernel_rfl)
    · exact Reg.doesV_val (ev_move rfl) (by rw [hE]; kernel_rfl) (by rw [hE, hF]; kernel_rfl)
    · exact Reg.doesV_val (ev_move rfl) (by rw [hE]; kernel_rfl) (by rw [hE, hF]; kernel_rfl)
    · exact Reg.doesV_val (ev_move rfl) (by rw [hF]; kernel_rfl) (by rw [hF]; kernel_rfl)
    · exact Reg.doesV_skip (by rw [hF]; kernel_rfl) (by rw [hF]; kernel_rfl)
    · exact Reg.doesV_skip (by rw [hF]; kernel_rfl) (by rw [hF]; kernel_rfl)
    · exact Reg.doesV_val (ev_pick false rfl (by rw [hF]; kernel_rfl)) (by rw [hF]; kernel_rfl) (by rw [hF]; kernel_rfl)
    · exact doesV_same hbx rfl rfl (by rw [hF]; kernel_rfl) (by rw [hF]; kernel_rfl) (by rw [hF]; kernel_rfl)
    · exact Reg.doesV_val (ev_assign rfl) (by rw [hF]; kernel_rfl) (by rw [hF]; kernel_rfl)
    · exact Reg.doesV_val (ev_assign rfl) (by rw [hF]; kernel_rfl) (by rw [hF]; kernel_rfl)
  · intro w9 hB'
    have hbx := bx.after hB'
    have hbw := hb.trans (hB'.mono hb.size)
    clear hB'
    simp only [List.cons_append, List.nil_append, Reg.putAll, Act.put, List.setIfInBounds_toArray, List.set_cons_zero, List.set_cons_succ]
    go_wp2
    exact cut_ret hbx rfl rfl rfl rfl ⟨hbw, (⟨(s[0].toNat : Int) - 1, 0, emp⟩ : Val), _, _, rfl, (by rw [Hl.out]; exact cut1_o _ _ (fun h => by rw [h] at o0; exact absurd o0 (by decide)) (fun h => by rw [h] at o1; exact absurd o1 (by decide)) (fun h => by rw [h] at o2; exact absurd o2 (by decide)) (fun h => by rw [h] at o3; exact absurd o3 (by decide)))⟩

theorem cutValue_c (s : ByteArray) (w : World) (hs : s.size ≤ 500000) (h1 : 0 < s.size) : Calls Tryd.prog 18 #[.string s] w (CutVPost s.data.toList w) := by
  by_cases k0 : (s[0].toNat : Int) - 1 = 0
  · exact cutValue_null s w hs h1 k0
  by_cases k1 : (s[0].toNat : Int) - 1 = 1
  · exact cutValue_bool s w hs h1 k1
  by_cases k2 : (s[0].toNat : Int) - 1 = 2
  · exact cutValue_int s w hs h1 k2
  by_cases k3 : (s[0].toNat : Int) - 1 = 3
  · exact cutValue_text s w hs h1 k3
  exact cutValue_other s w hs h1 (by simpa using k0) (by simpa using k1) (by simpa using k2) (by simpa using k3)
end Go.Proofs.YtkbgcgkblbbcbaaDoor
