/-
  Part 4 of 11 of what the proof leans on: each part below says what it proves, and of what; no condition besides.
-/
import Derived.Test.YtbpopkgpepmlcaaGreatR02
import Derived.Test.YtbpopkgpepmlcaaGreatR03
import Derived.Deep.RegionLaw
import Derived.Deep.AppendLies
set_option linter.unusedVariables false
set_option linter.unusedSimpArgs false
namespace Go.Proofs.YtbpopkgpepmlcaaGreat
open Go Go.RowKit
set_option maxRecDepth 100000
def SlI (w : World) (A : Option Addr) (ks : List Int) : Prop :=
 ks = [] ∨ ∃ b off, A = some ⟨b, off, none⟩ ∧ b < w.heap.size ∧ ∀ i (k : Int), ks[i]? = some k → w.cell? ⟨b, off + i, none⟩ = some (.int .i64 k)
def takes (op : Int) : Nat := if 2 ≤ op ∧ op ≤ 8 then 2 else if op = 9 ∨ op = 10 then 1 else 0
theorem ops_cases (op : Int) : op = 2 ∨ op = 3 ∨ op = 4 ∨ op = 5 ∨ op = 6 ∨ op = 7 ∨ op = 8 ∨ op = 9 ∨ op = 10 ∨ ((op == 2) = false ∧ (op == 3) = false ∧ (op == 4) = false ∧ (op == 5) = false ∧ (op == 6) = false ∧ (op == 7) = false ∧ (op == 8) = false ∧ (op == 9) = false ∧ (op == 10) = false) := by
 simp only [beq_eq_false_iff_ne]
 omega
theorem takes_le (op : Int) : takes op ≤ 2 := by unfold takes; split <;> (try split) <;> omega
set_option maxHeartbeats 1000000 in
theorem operands_c (op : Int) (w : World) : Calls Tryz.prog 95 #[.int .i64 op] w fun e w' => e = .returned (.int .i64 (takes op)) ∧ w' = w := by
 rcases ops_cases op with rfl | rfl | rfl | rfl | rfl | rfl | rfl | rfl | rfl | ⟨h2, h3, h4, h5, h6, h7, h8, h9, h10⟩
 all_goals first
  | (go_enter Tryz.func95, Tryz.ntmps95
     go_wp2
     go_ret
     exact ⟨rfl, rfl⟩)
  | skip
 have e : takes op = 0 := by
  simp only [beq_eq_false_iff_ne] at h2 h3 h4 h5 h6 h7 h8 h9 h10
  unfold takes
  rw [if_neg (by omega), if_neg (by omega)]
 rw [e]
 go_enter Tryz.func95, Tryz.ntmps95
 go_wp2
 go_ret
 exact ⟨rfl, rfl⟩
def fitB (kind : Int) : List Int → Bool
 | [] => true
 | k :: r => !(k != kind && k != 0) && fitB kind r
theorem fit_drop (kind : Int) (ks : List Int) (i : Nat) (k : Int) (h : ks[i]? = some k) : fitB kind (ks.drop i) = (!(k != kind && k != 0) && fitB kind (ks.drop (i + 1))) := by
 have hlt : i < ks.length := (List.getElem?_eq_some_iff.1 h).1
 have hv : ks[i] = k := (List.getElem?_eq_some_iff.1 h).2
 rw [List.drop_eq_getElem_cons hlt, hv, fitB]
set_option maxHeartbeats 2000000 in
theorem fit_c (kind : Int) (A : Option Addr) (n c : Nat) (ks : List Int) (w : World) (hn : ks.length = n) (hmax : n ≤ 1000) (hs : SlI w A ks) :
 Calls Tryz.prog 117 #[.int .i64 kind, .slice A n c] w fun e w' => e = .returned (.bool (fitB kind ks)) ∧ w' = w := by
 have Hn := Lib.hid hn
 have Hs := Lib.hid hs
 clear hn hs
 go_enter Tryz.func117, Tryz.ntmps117
 go_wp2_with fail
 go_loopw [9] (fun i wr => ∃ k : Nat, k ≤ n ∧ i = .int .i64 k ∧ wr = w ∧ Hid (fitB kind (ks.drop k) = fitB kind ks)) (fun i _ => n - (intOf i).toNat)
 case atStart => exact ⟨0, Nat.zero_le _, rfl, rfl, rfl⟩
 case round =>
  obtain ⟨k, hk, rfl, rfl, hinv⟩ := hrel
  by_cases hlt' : k < n
  · obtain ⟨v, hv⟩ : ∃ v, ks[k]? = some v := ⟨ks[k]'(by rw [Hn.out]; exact hlt'), List.getElem?_eq_getElem _⟩
    rcases Hs.out with h0 | ⟨b, off, rfl, hlt, hc⟩
    · rw [h0] at hv; simp at hv
    have c0 := hc k v hv
    have hstep := fit_drop kind ks k v hv
    clear hc hv
    cases h1 : v != kind
    · have Hst := Lib.hid (hstep.symm.trans hinv.out)
      rw [h1] at Hst
      clear hstep
      go_wp2
      go_roundw
      case rel => exact ⟨k + 1, by omega, by go_num, trivial, Lib.hid (by have := Hst.out; simpa using this)⟩
      case measure => simp [intOf]; omega
    · cases h2 : v != 0
      · have Hst := Lib.hid (hstep.symm.trans hinv.out)
        rw [h1, h2] at Hst
        clear hstep
        go_wp2
        go_roundw
        case rel => exact ⟨k + 1, by omega, by go_num, trivial, Lib.hid (by have := Hst.out; simpa using this)⟩
        case measure => simp [intOf]; omega
      · have Hst := Lib.hid (hstep.symm.trans hinv.out)
        rw [h1, h2] at Hst
        clear hstep
        go_wp2
        go_ret
        exact ⟨by rw [← Hst.out]; rfl, rfl⟩
  · have hkn : k = n := by omega
    have hstep := hinv.out
    rw [List.drop_eq_nil_of_le (by rw [Hn.out]; omega)] at hstep
    have Hst := Lib.hid hstep
    clear hstep
    go_wp2
    go_ret
    exact ⟨by rw [← Hst.out]; rfl, rfl⟩
def kindR (op : Int) (ks : List Int) : Int × Bool :=
 if op == 2 || op == 3 || op == 4 then (2, fitB 2 ks) else if op == 5 || op == 6 then (1, fitB (ks.getD 0 0) ks || fitB (ks.getD 1 0) ks) else if op == 7 || op == 8 || op == 9 then (1, fitB 1 ks) else if op == 10 then (1, true) else (0, false)
set_option maxHeartbeats 2000000 in
theorem kindOf_cmp (op : Int) (hop : op = 5 ∨ op = 6) (A : Option Addr) (c : Nat) (x y : Int) (w : World) (hs : SlI w A [x, y]) :
 Calls Tryz.prog 107 #[.int .i64 op, .slice A 2 c] w fun e w' => e = .returned (.tuple #[.int .i64 1, .bool (fitB x [x, y] || fitB y [x, y])]) ∧ w' = w := by
 have Hs := Lib.hid hs
 rcases hs with h0 | ⟨b, off, rfl, hlt, hc⟩
 · cases h0
 have c0 := hc 0 x rfl
 have c1 := hc 1 y rfl
 rw [Nat.add_zero] at c0
 clear hc
 obtain ⟨f1, hf1⟩ : ∃ f1, fitB x [x, y] = f1 := ⟨_, rfl⟩
 obtain ⟨f2, hf2⟩ : ∃ f2, fitB y [x, y] = f2 := ⟨_, rfl⟩
 rw [hf1, hf2]
 have H1 := Lib.hid hf1
 have H2 := Lib.hid hf2
 clear hf1 hf2
 rcases hop with rfl | rfl
 all_goals
  go_enter Tryz.func107, Tryz.ntmps107
  go_wp2_with fail
  refine (fit_c x _ 2 c [x, y] w rfl (by decide) Hs.out).mono ?_
  rintro e w1 ⟨rfl, rfl⟩
  rw [H1.out]
  cases f1
  · go_wp2_with fail
    refine (fit_c y _ 2 c [x, y] w1 rfl (by decide) Hs.out).mono ?_
    rintro e w1 ⟨rfl, rfl⟩
    rw [H2.out]
    go_wp2
    go_ret2
    exact ⟨rfl, rfl⟩
  · go_wp2
    go_ret2
    exact ⟨rfl, rfl⟩
set_option maxHeartbeats 2000000 in
theorem kindOf_one (op kind : Int) (hop : (kind = 2 ∧ (op = 2 ∨ op = 3 ∨ op = 4)) ∨ (kind = 1 ∧ (op = 7 ∨ op = 8 ∨ op = 9))) (A : Option Addr) (n c : Nat) (ks : List Int) (w : World) (hn : ks.length = n) (hmax : n ≤ 1000) (hs : SlI w A ks) :
 Calls Tryz.prog 107 #[.int .i64 op, .slice A n c] w fun e w' => e = .returned (.tuple #[.int .i64 kind, .bool (fitB kind ks)]) ∧ w' = w := by
 obtain ⟨f1, hf1⟩ : ∃ f1, fitB kind ks = f1 := ⟨_, rfl⟩
 rw [hf1]
 have H1 := Lib.hid hf1
 have Hn := Lib.hid hn
 have Hs := Lib.hid hs
 clear hf1 hn hs
 rcases hop with ⟨rfl, rfl | rfl | rfl⟩ | ⟨rfl, rfl | rfl | rfl⟩
 all_goals
  go_enter Tryz.func107, Tryz.ntmps107
  go_wp2_with fail
  refine (fit_c _ _ n c ks w Hn.out hmax Hs.out).mono ?_
  rintro e w1 ⟨rfl, rfl⟩
  rw [H1.out]
  go_wp2
  go_ret2
  exact ⟨rfl, rfl⟩
set_option maxHeartbeats 2000000 in
theorem kindOf_null (A : Option Addr) (n c : Nat) (w : World) :
 Calls Tryz.prog 107 #[.int .i64 10, .slice A n c] w fun e w' => e = .returned (.tuple #[.int .i64 1, .bool true]) ∧ w' = w := by
 go_enter Tryz.func107, Tryz.ntmps107
 go_wp2
 go_ret2
 exact ⟨rfl, rfl⟩
set_option maxHeartbeats 2000000 in
theorem kindOf_other (op : Int) (A : Option Addr) (n c : Nat) (w : World) (h2 : (op == 2) = false) (h3 : (op == 3) = false) (h4 : (op == 4) = false) (h5 : (op == 5) = false) (h6 : (op == 6) = false) (h7 : (op == 7) = false) (h8 : (op == 8) = false) (h9 : (op == 9) = false) (h10 : (op == 10) = false) :
 Calls Tryz.prog 107 #[.int .i64 op, .slice A n c] w fun e w' => e = .returned (.tuple #[.int .i64 0, .bool false]) ∧ w' = w := by
 go_enter Tryz.func107, Tryz.ntmps107
 go_wp2
 go_ret2
 exact ⟨rfl, rfl⟩
theorem kindOf_c (op : Int) (A : Option Addr) (n c : Nat) (ks : List Int) (w : World) (hn : ks.length = n) (ht : ks.length = takes op) (hs : SlI w A ks) :
 Calls Tryz.prog 107 #[.int .i64 op, .slice A n c] w fun e w' => e = .returned (.tuple #[.int .i64 (kindR op ks).1, .bool (kindR op ks).2]) ∧ w' = w := by
 have hmax : n ≤ 1000 := by have := takes_le op; omega
 rcases ops_cases op with rfl | rfl | rfl | rfl | rfl | rfl | rfl | rfl | rfl | ⟨h2, h3, h4, h5, h6, h7, h8, h9, h10⟩
 · exact kindOf_one 2 2 (.inl ⟨rfl, .inl rfl⟩) A n c ks w hn hmax hs
 · exact kindOf_one 3 2 (.inl ⟨rfl, .inr (.inl rfl)⟩) A n c ks w hn hmax hs
 · exact kindOf_one 4 2 (.inl ⟨rfl, .inr (.inr rfl)⟩) A n c ks w hn hmax hs
 · match ks, ht with
   | [x, y], _ => subst hn; exact kindOf_cmp 5 (.inl rfl) A c x y w hs
 · match ks, ht with
   | [x, y], _ => subst hn; exact kindOf_cmp 6 (.inr rfl) A c x y w hs
 · exact kindOf_one 7 1 (.inr ⟨rfl, .inl rfl⟩) A n c ks w hn hmax hs
 · exact kindOf_one 8 1 (.inr ⟨rfl, .inr (.inl rfl)⟩) A n c ks w hn hmax hs
 · exact kindOf_one 9 1 (.inr ⟨rfl, .inr (.inr rfl)⟩) A n c ks w hn hmax hs
 · exact kindOf_null A n c w
 · have e : kindR op ks = (0, false) := by simp [kindR, h2, h3, h4, h5, h6, h7, h8, h9, h10]
   rw [e]
   exact kindOf_other op A n c w h2 h3 h4 h5 h6 h7 h8 h9 h10
structure Nd where
 op : Int
 n : Int
 v : Val
abbrev Nd.w (x : Nd) : Value := .agg #[.int .i64 x.op, .int .i64 x.n, .int .i64 x.v.k, .int .i64 x.v.n, .string x.v.s]
def Nd.cells (x : Nd) : Array Value := #[.int .i64 x.op, .int .i64 x.n, .int .i64 x.v.k, .int .i64 x.v.n, .string x.v.s]
def Nx (w : World) (b : Nat) (x : Nd) : Prop := w.heap[b]? = some (.cells x.cells 48 (0, 0))
theorem Nx.lt {w : World} {b : Nat} {x : Nd} (h : Nx w b x) : b < w.heap.size := by
 rcases Nat.lt_or_ge b w.heap.size with hlt | hge
 · exact hlt
 · unfold Nx at h; rw [Array.getElem?_eq_none hge] at h; cases h
theorem Nx.cell0 {w : World} {b : Nat} {x : Nd} (h : Nx w b x) : w.cell? ⟨b, 0, none⟩ = some (.int .i64 x.op) := by unfold Nx at h; simp [World.cell?, h, Nd.cells]
theorem Nx.cell1 {w : World} {b : Nat} {x : Nd} (h : Nx w b x) : w.cell? ⟨b, 1, none⟩ = some (.int .i64 x.n) := by unfold Nx at h; simp [World.cell?, h, Nd.cells]
theorem Nx.cell2 {w : World} {b : Nat} {x : Nd} (h : Nx w b x) : w.cell? ⟨b, 2, none⟩ = some (.int .i64 x.v.k) := by unfold Nx at h; simp [World.cell?, h, Nd.cells]
theorem Nx.new (w : World) (x : Nd) : Nx (w.alloc (.cells x.cells 48)) w.heap.size x := by
 show (w.heap.push _)[w.heap.size]? = _
 simp
theorem Nx.block {w w' : World} {b : Nat} {x : Nd} (h : Nx w b x) (hb : w'.heap[b]? = w.heap[b]?) : Nx w' b x := hb.trans h
theorem Nx.after {w w' : World} {b : Nat} {x : Nd} (h : Nx w b x) (hb : Below w.heap.size w w') : Nx w' b x := h.block (hb.block b h.lt)
theorem ev_fa {F : Act} {w : World} {b off d : Nat} {t s : Nat} {i : Nat} {o : Oper} (ho : o.op = .fieldAddr t (.tmp s) i) (ht : Reg.slot F s = .pointer (some ⟨b, off, none⟩)) (hr : (Instr.fieldAt t (.pointer (some ⟨b, off, none⟩)) i).run Tryz.prog w = .ok (.pointer (some ⟨b, d, none⟩)) w) :
 (execOp F.eval o).run Tryz.prog w = .ok (.value (.pointer (some ⟨b, d, none⟩))) w := by
 have e1 : F.eval (.tmp s) = .pointer (some ⟨b, off, none⟩) := ht
 simp only [execOp, ho, e1, Sem.run_bind, hr, Sem.run_pure, Result.andThen_ok]
theorem ev_ld {F : Act} {w : World} {b off : Nat} {t s : Nat} {v : Value} {o : Oper} (ho : o.op = .load t (.tmp s)) (ht : Reg.slot F s = .pointer (some ⟨b, off, none⟩)) (hr : (Instr.loadAt t (.pointer (some ⟨b, off, none⟩))).run Tryz.prog w = .ok v w) :
 (execOp F.eval o).run Tryz.prog w = .ok (.value v) w := by
 have e1 : F.eval (.tmp s) = .pointer (some ⟨b, off, none⟩) := ht
 simp only [execOp, ho, e1, Sem.run_bind, hr, Sem.run_pure, Result.andThen_ok]
theorem ev_nc {F : Act} {w : World} {a : Addr} {s : Nat} {o : Oper} (ho : o.op = .nilCheck (.tmp s)) (ht : Reg.slot F s = .pointer (some a)) :
 (execOp F.eval o).run Tryz.prog w = .ok (.value (.pointer (some a))) w := by
 have e1 : F.eval (.tmp s) = .pointer (some a) := ht
 simp only [execOp, ho, e1]
 rfl
theorem fa_node0 (w : World) (b : Nat) : (Instr.fieldAt 48 (.pointer (some ⟨b, 0, none⟩)) 0).run Tryz.prog w = .ok (.pointer (some ⟨b, 0, none⟩)) w := by go_simp
theorem Nx.ldO {w : World} {b : Nat} {x : Nd} (h : Nx w b x) : (Instr.loadAt 3 (.pointer (some ⟨b, 0, none⟩))).run Tryz.prog w = .ok (.int .i64 x.op) w := by
 have h0 := h.cell0
 go_simp
theorem Sl.alloc {w : World} {A : Option Addr} {ks : List Val} (h : Sl w A ks) (o : Obj) : Sl (w.alloc o) A ks := h.after (below_one w o)
theorem cellsL_take : ∀ (xs : List Val) (m : Nat), cellsL (xs.take m) = (cellsL xs).take (m * 3)
 | [], m => by simp [cellsL]
 | a :: l, 0 => by simp [cellsL]
 | a :: l, m + 1 => by
   rw [List.take_succ_cons, cellsL, cellsL, cellsL_take l m, show (m + 1) * 3 = m * 3 + 1 + 1 + 1 by omega]
   rfl
def OwnU (w : World) (B : Nat) (v : Value) (ks : List Val) : Prop := w.ownsRow B 46 3 v ks.length (cellsL ks)
theorem OwnU.nil (w : World) (B : Nat) : OwnU w B (.slice none 0 0) [] := World.ownsRow_nil w B _ 3
theorem OwnU.lt {w : World} {B : Nat} {v : Value} {xs : List Val} (h : OwnU w B v xs) : ∀ k, v.ownBlock = some k → B ≤ k ∧ k < w.heap.size := fun k hk => World.ownsRow.lt h k hk
theorem OwnU.same {w w' : World} {B : Nat} {v : Value} {xs : List Val} (h : OwnU w B v xs) (hb : ∀ k, v.ownBlock = some k → w'.heap[k]? = w.heap[k]?) : OwnU w' B v xs := by
 obtain ⟨h1, h2⟩ := h
 refine ⟨h1, ?_⟩
 rcases h2 with h2 | ⟨g', cap, cur, hv, hB, hh, h3⟩
 · exact .inl h2
 · exact .inr ⟨g', cap, cur, hv, hB, (hb g' (by rw [hv]; rfl)).trans hh, h3⟩
theorem OwnU.after {w w' : World} {B : Nat} {v : Value} {xs : List Val} (h : OwnU w B v xs) (hb : Below w.heap.size w w') : OwnU w' B v xs := h.same fun k hk => hb.block k (h.lt k hk).2
theorem OwnU.alloc {w : World} {B : Nat} {v : Value} {xs : List Val} (h : OwnU w B v xs) (o : Obj) : OwnU (w.alloc o) B v xs := h.after (below_one w o)
theorem OwnU.shape {w : World} {B : Nat} {v : Value} {xs : List Val} (h : OwnU w B v xs) : (v = .slice none 0 0 ∧ xs = []) ∨ ∃ g c, v = .slice (some ⟨g, 0, none⟩) xs.length c ∧ xs.length ≤ c ∧ c ≤ maxLen ∧ ∀ i (a : Val), xs[i]? = some a → w.cell? ⟨g, i * 3, none⟩ = some (.int .i64 a.k) ∧ w.cell? ⟨g, i * 3 + 1, none⟩ = some (.int .i64 a.n) ∧ w.cell? ⟨g, i * 3 + 2, none⟩ = some (.string a.s) := by
 rcases h.2 with ⟨rfl, hn⟩ | ⟨g, cap, cur, rfl, hB, hh, hle, hm, _⟩
 · exact .inl ⟨rfl, List.eq_nil_of_length_eq_zero hn⟩
 · refine .inr ⟨g, cap, rfl, hle, hm, fun i k hk => ?_⟩
   have key : ∀ j u, (cellsL xs)[j]? = some u → w.cell? ⟨g, j, none⟩ = some u := fun j u hu => by
    have := World.ownsRow.cells (g := g) h rfl j u hu
    rwa [Go.WideShapes.add_plain, Nat.zero_add] at this
   obtain ⟨e0, e1, e2⟩ := cellsL_at _ i k hk
   exact ⟨key _ _ e0, key _ _ e1, key _ _ e2⟩
theorem OwnU.isSlice {w : World} {B : Nat} {v : Value} {xs : List Val} (h : OwnU w B v xs) : ∃ A n c, v = .slice A n c := by
 rcases h.shape with ⟨rfl, _⟩ | ⟨g, c, rfl, _⟩
 · exact ⟨_, _, _, rfl⟩
 · exact ⟨_, _, _, rfl⟩
theorem OwnU.shrink {w : World} {B g L c : Nat} {xs : List Val} (h : OwnU w B (.slice (some ⟨g, 0, none⟩) L c) xs) (m : Nat) (hm : m ≤ xs.length) : OwnU w B (.slice (some ⟨g, 0, none⟩) m c) (xs.take m) := by
 obtain ⟨h1, h2⟩ := h
 refine ⟨cellsL_length _, ?_⟩
 rcases h2 with ⟨h2, _⟩ | ⟨g', cap, cur, hv, hB, hh, hle, hmx, hsz, htk⟩
 · cases h2
 · cases hv
   refine .inr ⟨g, c, cur, by rw [List.length_take, Nat.min_eq_left hm], hB, hh, by rw [List.length_take]; omega, hmx, hsz, ?_⟩
   have e : (xs.take m).length * 3 = m * 3 := by rw [List.length_take]; omega
   rw [e, cellsL_take, ← htk, List.take_take]
   congr 1
   omega
def Vx (w : World) (b : Nat) (v u : Value) : Prop := w.heap[b]? = some (.cells #[v, u] 94 (0, 0))
theorem Vx.cell0 {w : World} {b : Nat} {v u : Value} (h : Vx w b v u) : w.cell? ⟨b, 0, none⟩ = some v := by unfold Vx at h; simp [World.cell?, h]
theorem Vx.cell1 {w : World} {b : Nat} {v u : Value} (h : Vx w b v u) : w.cell? ⟨b, 1, none⟩ = some u := by unfold Vx at h; simp [World.cell?, h]
theorem Vx.frozen {w : World} {b : Nat} {v u : Value} (h : Vx w b v u) (i : Nat) : w.frozen? ⟨b, i, none⟩ = false := by unfold Vx at h; simp [World.frozen?, h]
theorem Vx.lt {w : World} {b : Nat} {v u : Value} (h : Vx w b v u) : b < w.heap.size := by
 rcases Nat.lt_or_ge b w.heap.size with hlt | hge
 · exact hlt
 · unfold Vx at h; rw [Array.getElem?_eq_none hge] at h; cases h
theorem Vx.after {w w' : World} {b : Nat} {v u : Value} (h : Vx w b v u) (hb : Below w.heap.size w w') : Vx w' b v u := (hb.block b h.lt).trans h
theorem Vx.set {w : World} {b : Nat} {v u : Value} (h : Vx w b v u) (v' : Value) : Vx (w.setCell ⟨b, 0, none⟩ v') b v' u := by
 unfold Vx at *
 simp [World.setCell, Array.getElem?_modify, h]
theorem Vx.new (w : World) (v u : Value) : Vx (w.alloc (.cells #[v, u] 94)) w.heap.size v u := by
 show (w.heap.push _)[w.heap.size]? = _
 simp
theorem Vx.apart {w : World} {b B : Nat} {v u x : Value} {xs : List Val} (h : Vx w b v u) (ho : OwnU w B x xs) : x.ownBlock ≠ some b := by
 intro he
 rcases ho.2 with ⟨rfl, _⟩ | ⟨g, cap, cur, rfl, _, hh, _⟩
 · cases he
 · have hg : g = b := by simpa [Value.ownBlock] using he
   subst hg
   unfold Vx at h
   rw [h] at hh
   injection hh with hh
   injection hh with _ ht _
   exact absurd ht (by decide)
theorem OwnU.set {w : World} {b B : Nat} {v u x y : Value} {xs : List Val} (ho : OwnU w B x xs) (h : Vx w b v u) : OwnU (w.setCell ⟨b, 0, none⟩ y) B x xs :=
 ho.same fun k hk => Below.heap_setCell _ _ _ _ (by rintro rfl; exact h.apart ho hk)
set_option maxHeartbeats 1000000 in
theorem pop_fewV (b n : Nat) (v u : Value) (ks : List Val) (B : Nat) (w : World) (hk : Vx w b v u) (ho : OwnU w B v ks) (hn : n ≤ 2) (hl : ks.length < n) :
 Calls Tryz.prog 94 #[.pointer (some ⟨b, 0, none⟩), .int .i64 n] w fun e w' => e = .returned (.tuple #[.slice none 0 0, .bool false]) ∧ w' = w := by
 have c0 := hk.cell0
 have hL : (ks.length : Int) < n := by omega
 rcases ho.shape with ⟨rfl, rfl⟩ | ⟨g, c, rfl, _, _, _⟩
 all_goals
  clear hk ho
  go_enter Tryz.func94, Tryz.ntmps94
  go_wp2
  go_ret2
  exact ⟨rfl, rfl⟩
def PopPostV (b n : Nat) (ks : List Val) (B : Nat) (A : Option Addr) (c : Nat) (v' : Value) (w : World) (e : Ending) (w' : World) : Prop :=
 e = .returned (.tuple #[.slice A n c, .bool true]) ∧ w' = w.setCell ⟨b, 0, none⟩ v' ∧ OwnU w B v' (ks.take (ks.length - n)) ∧ Sl w A (ks.drop (ks.length - n)) ∧ ∀ a, A = some a → a.block ≠ b
set_option maxHeartbeats 1000000 in
theorem pop_nilV (b : Nat) (u : Value) (B : Nat) (w : World) (hk : Vx w b (.slice none 0 0) u) :
 Calls Tryz.prog 94 #[.pointer (some ⟨b, 0, none⟩), .int .i64 0] w (PopPostV b 0 [] B none 0 (.slice none 0 0) w) := by
 have c0 := hk.cell0
 have f0 := hk.frozen 0
 have hlt := hk.lt
 clear hk
 go_enter Tryz.func94, Tryz.ntmps94
 go_wp2
 go_ret2
 exact ⟨rfl, rfl, OwnU.nil _ _, .inl rfl, fun a h => by cases h⟩
theorem pop_finV {b n g c L : Nat} {u : Value} {ks : List Val} {B : Nat} {w : World} (hk : Vx w b (.slice (some ⟨g, 0, none⟩) L c) u) (ho : OwnU w B (.slice (some ⟨g, 0, none⟩) L c) ks) (hL : L = ks.length) (hl : n ≤ L) :
 ∀ e o c', e = Ending.returned (.tuple #[.slice (some ⟨g, o, none⟩) (L - (L - n)) c', .bool true]) → (n = 0 ∨ o = (L - n) * 3) → PopPostV b n ks B (some ⟨g, o, none⟩) c' (.slice (some ⟨g, 0, none⟩) (L - n) c) w e (w.setCell ⟨b, 0, none⟩ (.slice (some ⟨g, 0, none⟩) (L - n) c)) := fun e o c' he ho' => by
 have hgb : g ≠ b := fun e => hk.apart ho (by rw [e]; rfl)
 have hg := (ho.lt g rfl).2
 rcases ho.shape with ⟨h0, _⟩ | ⟨g', c'', h0, hle, hmx, hcell⟩
 · cases h0
 cases h0
 refine ⟨by rw [he, show ks.length - (ks.length - n) = n by omega], rfl, ho.shrink _ (by omega), ?_, fun a ha => by cases ha; exact hgb⟩
 rcases ho' with rfl | rfl
 · exact .inl (by simp)
 · refine .inr ⟨g, _, rfl, hg, fun i k hk => ?_⟩
   rw [List.getElem?_drop] at hk
   have := hcell _ _ hk
   rw [Nat.add_mul] at this
   exact this
set_option maxHeartbeats 1000000 in
theorem pop_fullV (b n g c L : Nat) (u : Value) (ks : List Val) (B : Nat) (w : World) (hk : Vx w b (.slice (some ⟨g, 0, none⟩) L c) u) (ho : OwnU w B (.slice (some ⟨g, 0, none⟩) L c) ks) (hL : L = ks.length) (hn : n ≤ 2) (hl : n ≤ L) (hmax : L ≤ 1000) (hle : L ≤ c) (hc1 : L - n = c) :
 Calls Tryz.prog 94 #[.pointer (some ⟨b, 0, none⟩), .int .i64 n] w (PopPostV b n ks B (some ⟨g, 0, none⟩) 0 (.slice (some ⟨g, 0, none⟩) c c) w) := by
 have c0 := hk.cell0
 have f0 := hk.frozen 0
 have hlt := hk.lt
 have hn0 : n = 0 := by omega
 have Hf0 := Lib.hid (show ∀ e, e = Ending.returned (.tuple #[.slice (some ⟨g, 0, none⟩) 0 0, .bool true]) → PopPostV b n ks B (some ⟨g, 0, none⟩) 0 (.slice (some ⟨g, 0, none⟩) c c) w e (w.setCell ⟨b, 0, none⟩ (.slice (some ⟨g, 0, none⟩) c c)) from fun e he => by
  have h := pop_finV hk ho hL hl e 0 0 (by rw [he, show L - (L - n) = 0 by omega]) (.inl hn0)
  rwa [hc1] at h)
 clear hn0 hk ho hL
 go_enter Tryz.func94, Tryz.ntmps94
 go_wp2
 go_ret2
 exact Hf0.out _ rfl
set_option maxHeartbeats 1000000 in
theorem pop_moreV (b n g c L : Nat) (u : Value) (ks : List Val) (B : Nat) (w : World) (hk : Vx w b (.slice (some ⟨g, 0, none⟩) L c) u) (ho : OwnU w B (.slice (some ⟨g, 0, none⟩) L c) ks) (hL : L = ks.length) (hn : n ≤ 2) (hl : n ≤ L) (hmax : L ≤ 1000) (hle : L ≤ c) (hc1 : L - n < c) :
 Calls Tryz.prog 94 #[.pointer (some ⟨b, 0, none⟩), .int .i64 n] w (PopPostV b n ks B (some ⟨g, (L - n) * 3, none⟩) (c - (L - n)) (.slice (some ⟨g, 0, none⟩) (L - n) c) w) := by
 have c0 := hk.cell0
 have f0 := hk.frozen 0
 have hlt := hk.lt
 have Hfin := Lib.hid (pop_finV hk ho hL hl)
 clear hk ho hL
 go_enter Tryz.func94, Tryz.ntmps94
 go_wp2
 go_ret2
 exact Hfin.out _ _ _ rfl (.inr rfl)
theorem Sl.set {w : World} {b : Nat} {A : Option Addr} {ks : List Val} {y : Value} (h : Sl w A ks) (hne : ∀ a, A = some a → a.block ≠ b) : Sl (w.setCell ⟨b, 0, none⟩ y) A ks := by
 rcases h with h | ⟨g, off, hA, hlt, h⟩
 · exact .inl h
 · refine .inr ⟨g, off, hA, by simpa [World.setCell] using hlt, fun i k hk => ?_⟩
   have e : (w.setCell ⟨b, 0, none⟩ y).heap[g]? = w.heap[g]? := Below.heap_setCell _ _ _ _ (hne _ hA)
   obtain ⟨h0, h1, h2⟩ := h i k hk
   exact ⟨(World.cell?_of_block (a := ⟨g, _, none⟩) e).trans h0, (World.cell?_of_block (a := ⟨g, _, none⟩) e).trans h1, (World.cell?_of_block (a := ⟨g, _, none⟩) e).trans h2⟩
theorem valInfo : (Tryz.prog.info? 46).map (fun i => (i.zero, i.size, i.bytes)) = some (some nl.v, 3, 32) := by kernel_rfl
def PushPostV (b : Nat) (v u : Value) (ks : List Val) (B : Nat) (w : World) (e : Ending) (w' : World) : Prop :=
 e = .returned (.tuple #[]) ∧ Below B w w' ∧ (∀ k, k < w.heap.size → k ≠ b → v.ownBlock ≠ some k → w'.heap[k]? = w.heap[k]?) ∧ ∃ v', Vx w' b v' u ∧ OwnU w' B v' ks
theorem step_appV {ops : Array Oper} {o : Oper} {a : Act} {w : World} {K : Act → World → Prop} {Q : Exit → Act → World → Prop} {E : Prop} (x : Val) (hgd : o.guard = none) (s y : Operand) (ho : o.op = .call { callee := .builtin .append, args := #[s, y], argTypes := #[41, 41] })
 (B : Nat) (v : Value) (xs : List Val) (hs : a.eval s = v) (hb : OwnU w B v xs) (g : Nat) (hy : a.eval y = .slice (some ⟨g, 0, none⟩) 1 1) (hbx : Bx w g x) (hmax : xs.length ≤ 1000000) (hB : B ≤ w.heap.size)
 (h : ∀ g' cap w', OwnU w' B (.slice (some ⟨g', 0, none⟩) (xs.length + 1) cap) (xs ++ [x]) → w.grownBy w' v.ownBlock → K (a.put o.dst (.slice (some ⟨g', 0, none⟩) (xs.length + 1) cap)) w') :
 if Region.wanted o (yielded ops a.tmps) = true then Oper.wp Tryz.prog o a w K Q else E := by
 obtain ⟨i0, hi, hz0, hz1, hz2⟩ := info_parts valInfo
 have hcells : ∀ j u, (cellsL [x])[j]? = some u → w.cell? ((⟨g, 0, none⟩ : Addr).add j) = some u := by
  intro j u hj
  rw [Go.WideShapes.add_plain]
  match j, hj with
  | 0, hj => simp [cellsL] at hj; subst hj; exact hbx.cell0
  | 1, hj => simp [cellsL] at hj; subst hj; exact hbx.cell1
  | 2, hj => simp [cellsL] at hj; subst hj; exact hbx.cell2
  | j + 3, hj => simp [cellsL] at hj
 refine step_append_lies w hgd s y 41 ho B 46 i0 nl.v 3 32 Tryz.underlying41 hi hz0 hz1 hz2 (by decide) (by decide) v xs.length (cellsL xs) hs hb ⟨g, 0, none⟩ 1 1 (cellsL [x]) hy rfl hcells (cellsL_one [x]) (by decide) (by unfold maxLen; omega) (by omega) hB _ rfl ?_
 intro g' cap w' hown' hgrow _ _
 refine h g' cap w' ?_ hgrow
 unfold OwnU
 rw [cellsL_append, List.length_append]
 exact hown'
theorem OwnU.drew {w : World} {B : Nat} {v : Value} {xs : List Val} (h : OwnU w B v xs) : OwnU w.drew B v xs := h
set_option maxHeartbeats 4000000 in
theorem push_cV (b : Nat) (x : Val) (v u : Value) (ks : List Val) (B : Nat) (w : World) (hk : Vx w b v u) (ho : OwnU w B v ks) (hB : B ≤ b) (hmax : ks.length ≤ 1000) :
 Calls Tryz.prog 72 #[.pointer (some ⟨b, 0, none⟩), x.v] w (PushPostV b v u (ks ++ [x]) B w) := by
 have c0 := hk.cell0
 have hlt := hk.lt
 obtain ⟨A0, N0, C0, rfl⟩ := ho.isSlice
 have Ho := Lib.hid ho
 have Hk := Lib.hid hk
 clear ho hk
 go_enter Tryz.func72, Tryz.ntmps72
 go_wp2_with fail
 go_region_law (
  refine step_appV x rfl (.tmp 8) (.tmp 10) rfl B _ ks rfl (by exact ((Ho.out.alloc _).alloc _).drew) (w.heap.size + 1) rfl (by exact Bx.new1 w x _) (by omega) (by simp; omega) ?_
  intro g1 C1 w1 hv1 hg1
  have hb1 : Below B w w1 := by
   have h2 : Below B w ((w.alloc (.cells #[.int .i64 x.k, .int .i64 x.n, .string x.s] 46)).alloc (.cells #[.int .i64 x.k, .int .i64 x.n, .string x.s] 46)) := (below_two _ _ _).mono (by omega)
   have h3 : Below B w ((w.alloc (.cells #[.int .i64 x.k, .int .i64 x.n, .string x.s] 46)).alloc (.cells #[.int .i64 x.k, .int .i64 x.n, .string x.s] 46)).drew := ⟨h2.os, h2.tape, h2.output, h2.size, h2.block⟩
   exact h3.grown hg1 (by simp; omega) (fun k hk => (Ho.out.lt k hk).1)
  have k0 : Vx ((w.alloc (.cells #[.int .i64 x.k, .int .i64 x.n, .string x.s] 46)).alloc (.cells #[.int .i64 x.k, .int .i64 x.n, .string x.s] 46)) b _ u := Hk.out.after (below_two w _ _)
  have k1 : Vx w1 b _ u := (hg1.block b (by simp; omega) (fun e => Hk.out.apart Ho.out e.symm)).trans k0
  clear k0
  have Hsm := Lib.hid (show ∀ k, k < w.heap.size → (Value.slice A0 N0 C0).ownBlock ≠ some k → w1.heap[k]? = w.heap[k]? from fun k hk hne => (hg1.block k (by simp; omega) (fun e => hne e.symm)).trans ((below_two w _ _).block k hk))
  have c1 := k1.cell0
  have f1 := k1.frozen 0
  have l1 := k1.lt
  have Hv1 := Lib.hid hv1
  have Hk1 := Lib.hid k1
  have Hb1 := Lib.hid hb1
  clear hv1 hg1 k1 hb1)
 all_goals
  go_wp2
  exact bodyPost_ret (v := .tuple #[]) (by simp [results, Tryz.results72]) rfl ⟨rfl, Hb1.out.setCell hB _, fun k hk hne hno => (Below.heap_setCell _ _ _ _ (by exact hne)).trans (Hsm.out k hk hno), _, Hk1.out.set _, Hv1.out.set Hk1.out⟩
theorem truth_c (b : Bool) (w : World) : Calls Tryz.prog 47 #[.bool b] w fun e w' => e = .returned (tv b).v ∧ Below w.heap.size w w' := by
 cases b
 all_goals
  go_enter Tryz.func47, Tryz.ntmps47
  go_wp2
 · exact bodyPost_ret (v := ff.v) (by simp [results, Tryz.results47, go_sem, ff]) rfl ⟨rfl, below_one _ _⟩
 · exact bodyPost_ret (v := tt.v) (by simp [results, Tryz.results47, go_sem, tt]) rfl ⟨rfl, below_one _ _⟩
theorem enTruth : ∀ args w, (callFunc 47 args).run Tryz.prog w = .ok (.enter 47 args) w := fun _ _ => by kernel_rfl
set_option maxRecDepth 100000
set_option maxHeartbeats 1000000 in
theorem not_t (a : Val) (w : World) (h1 : a.eq tt = true) : Calls Tryz.prog 114 #[a.v] w fun e w' => e = .returned ff.v ∧ Below w.heap.size w w' := by
 have H1 := Lib.hid h1
 clear h1
 go_enter Tryz.func114, Tryz.ntmps114
 go_wp2_with fail
 refine Reg.wp_region_vals mixed (by kernel_rfl) [(3, a.v), (4, tt.v), (5, .bool true)] 12 rfl (by kernel_rfl) ?_ ?_
 · intro F hF w' hB
   have hbx : Bx w' w.heap.size a := ((Bx.new w a).alloc _).after hB
   refine ⟨?_, ?_, ?_, trivial⟩
   · exact Reg.doesV_val (ev_load hbx rfl (by rw [hF]; kernel_rfl)) (by rw [hF]; kernel_rfl) (by rw [hF]; kernel_rfl)
   · exact Reg.doesV_call (truth_c true w') (ev_call enTruth rfl (by rw [hF]; kernel_rfl)) (by rw [hF]; kernel_rfl) (by rw [hF]; kernel_rfl)
   · exact Reg.doesV_val (by rw [ev_eq a tt rfl (by rw [hF]; kernel_rfl) (by rw [hF]; kernel_rfl), H1.out]) (by rw [hF]; kernel_rfl) (by rw [hF]; kernel_rfl)
 · intro w' hB
   simp only [Reg.putAll, Act.put, List.setIfInBounds_toArray, List.set_cons_zero, List.set_cons_succ]
   have hbw : Below w.heap.size w w' := ((below_one _ _).alloc (by simp) _).trans (hB.mono (by simp; omega))
   have hres : Bx w' (w.heap.size + 1) nl := (Bx.new1 w nl _).below hB (by simp)
   clear hB
   go_wp2_with fail
   refine (truth_c false _).mono ?_
   rintro e w1 ⟨rfl, hb1⟩
   have hr1 := hres.after hb1
   have hbw1 := hbw.trans (hb1.mono hbw.size)
   clear hbw hres hb1
   have g0 := hr1.cell0
   have g1 := hr1.cell1
   have g2 := hr1.cell2
   have f0 := hr1.frozen 0
   have f1 := hr1.frozen 1
   have f2 := hr1.frozen 2
   go_wp2
   exact ret_val (a := ff) Tryz.results114 rfl (hr1.put ff) rfl ⟨rfl, put3_below hbw1 (by omega) ff⟩
set_option maxHeartbeats 1000000 in
theorem not_f (a : Val) (w : World) (h1 : a.eq tt = false) (b : Bool) (h2 : a.eq ff = b) : Calls Tryz.prog 114 #[a.v] w fun e w' => e = .returned (if b then tt else nl).v ∧ Below w.heap.size w w' := by
 have H1 := Lib.hid h1
 have H2 := Lib.hid h2
 clear h1 h2
 go_enter Tryz.func114, Tryz.ntmps114
 go_wp2_with fail
 refine Reg.wp_region_vals mixed (by kernel_rfl) [(3, a.v), (4, tt.v), (5, .bool false)] 12 rfl (by kernel_rfl) ?_ ?_
 · intro F hF w' hB
   have hbx : Bx w' w.heap.size a := ((Bx.new w a).alloc _).after hB
   refine ⟨?_, ?_, ?_, trivial⟩
   · exact Reg.doesV_val (ev_load hbx rfl (by rw [hF]; kernel_rfl)) (by rw [hF]; kernel_rfl) (by rw [hF]; kernel_rfl)
   · exact Reg.doesV_call (truth_c true w') (ev_call enTruth rfl (by rw [hF]; kernel_rfl)) (by rw [hF]; kernel_rfl) (by rw [hF]; kernel_rfl)
   · exact Reg.doesV_val (by rw [ev_eq a tt rfl (by rw [hF]; kernel_rfl) (by rw [hF]; kernel_rfl), H1.out]) (by rw [hF]; kernel_rfl) (by rw [hF]; kernel_rfl)
 · intro w' hB
   simp only [Reg.putAll, Act.put, List.setIfInBounds_toArray, List.set_cons_zero, List.set_cons_succ]
   have hbw : Below w.heap.size w w' := ((below_one _ _).alloc (by simp) _).trans (hB.mono (by simp; omega))
   have hres : Bx w' (w.heap.size + 1) nl := (Bx.new1 w nl _).below hB (by simp)
   have harg : Bx w' w.heap.size a := ((Bx.new w a).alloc _).after hB
   clear hB
   go_wp2_with fail
   refine Reg.wp_region_vals mixed (by kernel_rfl) [(7, a.v), (8, ff.v), (9, .bool b)] 12 rfl (by kernel_rfl) ?_ ?_
   · intro F hF w2 hB
     have hbx : Bx w2 w.heap.size a := harg.after hB
     refine ⟨?_, ?_, ?_, trivial⟩
     · exact Reg.doesV_val (ev_load hbx rfl (by rw [hF]; kernel_rfl)) (by rw [hF]; kernel_rfl) (by rw [hF]; kernel_rfl)
     · exact Reg.doesV_call (truth_c false w2) (ev_call enTruth rfl (by rw [hF]; kernel_rfl)) (by rw [hF]; kernel_rfl) (by rw [hF]; kernel_rfl)
     · exact Reg.doesV_val (by rw [ev_eq a ff rfl (by rw [hF]; kernel_rfl) (by rw [hF]; kernel_rfl), H2.out]) (by rw [hF]; kernel_rfl) (by rw [hF]; kernel_rfl)
   · intro w2 hB
     simp only [Reg.putAll, Act.put, List.setIfInBounds_toArray, List.set_cons_zero, List.set_cons_succ]
     have hbw2 := hbw.trans (hB.mono hbw.size)
     have hres2 := hres.after hB
     clear hB hbw hres harg
     cases b
     · have g0 := hres2.cell0
       have g1 := hres2.cell1
       have g2 := hres2.cell2
       have f0 := hres2.frozen 0
       have f1 := hres2.frozen 1
       have f2 := hres2.frozen 2
       go_wp2
       exact ret_val (a := nl) Tryz.results114 rfl (hres2.put nl) rfl ⟨rfl, put3_below hbw2 (by omega) nl⟩
     · go_wp2_with fail
       refine (truth_c true _).mono ?_
       rintro e w1 ⟨rfl, hb1⟩
       have hr1 := hres2.after hb1
       have hbw1 := hbw2.trans (hb1.mono hbw2.size)
       clear hbw2 hres2 hb1
       have g0 := hr1.cell0
       have g1 := hr1.cell1
       have g2 := hr1.cell2
       have f0 := hr1.frozen 0
       have f1 := hr1.frozen 1
       have f2 := hr1.frozen 2
       go_wp2
       exact ret_val (a := tt) Tryz.results114 rfl (hr1.put tt) rfl ⟨rfl, put3_below hbw1 (by omega) tt⟩
theorem not_c (a : Val) (w : World) : Calls Tryz.prog 114 #[a.v] w fun e w' => e = .returned (nt a).v ∧ Below w.heap.size w w' := by
 cases h1 : a.eq tt
 · have e : nt a = if a.eq ff then tt else nl := by unfold nt; rw [h1]; rfl
   rw [e]
   exact not_f a w h1 _ rfl
 · have e : nt a = ff := by unfold nt; rw [h1]; rfl
   rw [e]
   exact not_t a w h1
theorem ret_val2 {fn : Func} {R : Ending → World → Prop} {F : Act} {w : World} {t u : Tmp} {b : Nat} {a : Val} {ok : Bool} (hres : fn.results = #[.cell t 46, .tmp u]) (ht : Reg.slot F t = .pointer (some ⟨b, 0, none⟩)) (hu : Reg.slot F u = .bool ok) (hb : Bx w b a) (hd : F.defers = [])
 (hR : R (.returned (.tuple #[a.v, .bool ok])) w) : bodyPost Tryz.prog fn R .ret F w := by
 have h0 := hb.cell0
 have h1 := hb.cell1
 have h2 := hb.cell2
 refine bodyPost_ret (v := .tuple #[a.v, .bool ok]) ?_ hd hR
 have ht' : F.tmps[t]?.getD undef = .pointer (some ⟨b, 0, none⟩) := by simpa [Reg.slot] using ht
 have hu' : F.tmps[u]?.getD undef = .bool ok := by simpa [Reg.slot] using hu
 simp [results, hres, ht', hu', go_sem, h0, h1, h2]
def comp (x y : Val) (r : Int) (fits : Bool) : Val × Bool :=
 if x.k == 0 || y.k == 0 then (nl, true) else if x.k != 2 || y.k != 2 then (nl, false) else if fits then (iv r, true) else (nl, false)
theorem Bx.new2 (w : World) (a : Val) (o o' : Obj) : Bx (((w.alloc o).alloc o').alloc (.cells #[.int .i64 a.k, .int .i64 a.n, .string a.s] 46)) (w.heap.size + 2) a := by
 have := Bx.new ((w.alloc o).alloc o') a
 simpa using this
theorem below_three (w : World) (o o' o'' : Obj) : Below w.heap.size w (((w.alloc o).alloc o').alloc o'') := ((below_one _ _).alloc (by simp) _).alloc (by simp; omega) _
set_option maxHeartbeats 400000 in
theorem compute_null (x y : Val) (fv : Value) (w : World) (h : (x.k == 0 || y.k == 0) = true) :
 Calls Tryz.prog 118 #[x.v, y.v, fv] w fun e w' => e = .returned (.tuple #[nl.v, .bool true]) ∧ Below w.heap.size w w' := by
 cases h1 : x.k == 0
 · have h2 : (y.k == 0) = true := by rw [h1] at h; exact h
   clear h
   go_enter Tryz.func118, Tryz.ntmps118
   go_wp2
   exact ret_val2 (a := nl) Tryz.results118 rfl rfl (Bx.new2 w nl _ _) rfl ⟨rfl, below_three _ _ _ _⟩
 · clear h
   go_enter Tryz.func118, Tryz.ntmps118
   go_wp2
   exact ret_val2 (a := nl) Tryz.results118 rfl rfl (Bx.new2 w nl _ _) rfl ⟨rfl, below_three _ _ _ _⟩
set_option maxHeartbeats 400000 in
theorem compute_kind (x y : Val) (fv : Value) (w : World) (h0 : (x.k == 0) = false) (h0' : (y.k == 0) = false) (h : (x.k != 2 || y.k != 2) = true) :
 Calls Tryz.prog 118 #[x.v, y.v, fv] w fun e w' => e = .returned (.tuple #[nl.v, .bool false]) ∧ Below w.heap.size w w' := by
 cases h1 : x.k != 2
 · have h2 : (y.k != 2) = true := by rw [h1] at h; exact h
   clear h
   go_enter Tryz.func118, Tryz.ntmps118
   go_wp2
   exact ret_val2 (a := nl) Tryz.results118 rfl rfl (Bx.new2 w nl _ _) rfl ⟨rfl, below_three _ _ _ _⟩
 · clear h
   go_enter Tryz.func118, Tryz.ntmps118
   go_wp2
   exact ret_val2 (a := nl) Tryz.results118 rfl rfl (Bx.new2 w nl _ _) rfl ⟨rfl, below_three _ _ _ _⟩
set_option maxHeartbeats 400000 in
theorem compute_ints (x y : Val) (f : FuncId) (p q : Value) (r : Int) (fits : Bool) (w : World) (h0 : (x.k == 0) = false) (h0' : (y.k == 0) = false) (h : (x.k != 2) = false) (h' : (y.k != 2) = false)
 (hE : ∀ args w, (callFunc f args).run Tryz.prog w = .ok (.enter f args) w)
 (hf : ∀ w1, Below w.heap.size w w1 → Calls Tryz.prog f #[p, q] w1 fun e w' => e = .returned (.tuple #[.int .i64 r, .bool fits]) ∧ Below w1.heap.size w1 w') :
 Calls Tryz.prog 118 #[x.v, y.v, .func (.func f) #[] #[p, q]] w fun e w' => e = .returned (.tuple #[(if fits then iv r else nl).v, .bool fits]) ∧ Below w.heap.size w w' := by
 have Hf := Lib.hid hf
 clear hf
 go_enter Tryz.func118, Tryz.ntmps118
 go_wp2_with fail
 refine (Hf.out _ (below_three _ _ _ _)).mono ?_
 rintro e w1 ⟨rfl, hb1⟩
 have r1 : Bx w1 (w.heap.size + 2) nl := (Bx.new2 w nl _ _).below hb1 (by simp)
 have hb : Below w.heap.size w w1 := (below_three _ _ _ _).trans (hb1.mono (by simp; omega))
 clear hb1
 have g0 := r1.cell0
 have g1 := r1.cell1
 have g2 := r1.cell2
 have f0 := r1.frozen 0
 have f1 := r1.frozen 1
 have f2 := r1.frozen 2
 cases fits
 · go_wp2
   rw [put3_fold]
   exact ret_val2 (a := nl) Tryz.results118 rfl rfl (r1.put nl) rfl ⟨rfl, put3_below hb (by omega) nl⟩
 · go_wp2
   rw [put3_fold]
   exact ret_val2 (a := iv r) Tryz.results118 rfl rfl (r1.put (iv r)) rfl ⟨rfl, put3_below hb (by omega) (iv r)⟩
theorem compute_c (x y : Val) (f : FuncId) (p q : Value) (r : Int) (fits : Bool) (w : World)
 (hE : ∀ args w, (callFunc f args).run Tryz.prog w = .ok (.enter f args) w)
 (hf : ∀ w1, Below w.heap.size w w1 → Calls Tryz.prog f #[p, q] w1 fun e w' => e = .returned (.tuple #[.int .i64 r, .bool fits]) ∧ Below w1.heap.size w1 w') :
 Calls Tryz.prog 118 #[x.v, y.v, .func (.func f) #[] #[p, q]] w fun e w' => e = .returned (.tuple #[(comp x y r fits).1.v, .bool (comp x y r fits).2]) ∧ Below w.heap.size w w' := by
 cases h : x.k == 0 || y.k == 0
 · obtain ⟨h0, h0'⟩ := Bool.or_eq_false_iff.1 h
   cases h2 : x.k != 2 || y.k != 2
   · obtain ⟨h3, h3'⟩ := Bool.or_eq_false_iff.1 h2
     have e : comp x y r fits = (if fits then iv r else nl, fits) := by
      simp only [comp, h, h2, Bool.false_eq_true, if_false]; cases fits <;> rfl
     rw [e]
     exact compute_ints x y f p q r fits w h0 h0' h3 h3' hE hf
   · have e : comp x y r fits = (nl, false) := by
      simp only [comp, h, h2, Bool.false_eq_true, if_false, if_true]
     rw [e]
     exact compute_kind x y _ w h0 h0' h2
 · have e : comp x y r fits = (nl, true) := by simp only [comp, h, if_true]
   rw [e]
   exact compute_null x y _ w h
set_option maxHeartbeats 400000 in
theorem add1_c (x y : Val) (b c : Nat) (w : World) (hx : Bx w b x) (hy : Bx w c y) :
 Calls Tryz.prog 119 #[.pointer (some ⟨b, 0, none⟩), .pointer (some ⟨c, 0, none⟩)] w fun e w' => e = .returned (.tuple #[.int .i64 (wrap64 (x.n + y.n)), .bool (decide (x.n < wrap64 (x.n + y.n)) == decide (0 < y.n))]) ∧ Below w.heap.size w w' := by
 have x1 := hx.cell1
 have y1 := hy.cell1
 clear hx hy
 go_enter Tryz.func119, Tryz.ntmps119
 go_wp2_with fail
 go_quiet (fail)
 go_wp2
 go_ret2
 exact ⟨rfl, ⟨rfl, rfl, rfl, Nat.le_refl _, fun _ _ => rfl⟩⟩
set_option maxHeartbeats 400000 in
theorem sub1_c (x y : Val) (b c : Nat) (w : World) (hx : Bx w b x) (hy : Bx w c y) :
 Calls Tryz.prog 120 #[.pointer (some ⟨b, 0, none⟩), .pointer (some ⟨c, 0, none⟩)] w fun e w' => e = .returned (.tuple #[.int .i64 (wrap64 (x.n - y.n)), .bool (decide (wrap64 (x.n - y.n) < x.n) == decide (0 < y.n))]) ∧ Below w.heap.size w w' := by
 have x1 := hx.cell1
 have y1 := hy.cell1
 clear hx hy
 go_enter Tryz.func120, Tryz.ntmps120
 go_wp2_with fail
 go_quiet (fail)
 go_wp2
 go_ret2
 exact ⟨rfl, ⟨rfl, rfl, rfl, Nat.le_refl _, fun _ _ => rfl⟩⟩
def mulFits (a b : Int) : Bool := if a == 0 then true else if a == -1 && b == -9223372036854775808 then false else wrap64 ((wrap64 (a * b)).tdiv a) == b
def mulIs (a b : Int) : Int := if a == 0 then 0 else if a == -1 && b == -9223372036854775808 then 0 else wrap64 (a * b)
set_option maxHeartbeats 400000 in
theorem mul1_zero (x : Val) (b c : Nat) (w : World) (hx : Bx w b x) (h0 : (x.n == 0) = true) :
 Calls Tryz.prog 121 #[.pointer (some ⟨b, 0, none⟩), .pointer (some ⟨c, 0, none⟩)] w fun e w' => e = .returned (.tuple #[.int .i64 0, .bool true]) ∧ Below w.heap.size w w' := by
 have x1 := hx.cell1
 clear hx
 go_enter Tryz.func121, Tryz.ntmps121
 go_wp2
 go_ret2
 exact ⟨rfl, Below.refl _ _⟩
set_option maxHeartbeats 400000 in
theorem mul1_min (x y : Val) (b c : Nat) (w : World) (hx : Bx w b x) (hy : Bx w c y) (h0 : (x.n == 0) = false) (h1 : (x.n == -1) = true) (h2 : (y.n == -9223372036854775808) = true) :
 Calls Tryz.prog 121 #[.pointer (some ⟨b, 0, none⟩), .pointer (some ⟨c, 0, none⟩)] w fun e w' => e = .returned (.tuple #[.int .i64 0, .bool false]) ∧ Below w.heap.size w w' := by
 have x1 := hx.cell1
 have y1 := hy.cell1
 clear hx hy
 go_enter Tryz.func121, Tryz.ntmps121
 go_wp2
 go_ret2
 exact ⟨rfl, Below.refl _ _⟩
set_option maxHeartbeats 400000 in
theorem mul1_some (x y : Val) (b c : Nat) (w : World) (hx : Bx w b x) (hy : Bx w c y) (h0 : (x.n == 0) = false) (h12 : (x.n == -1 && y.n == -9223372036854775808) = false) :
 Calls Tryz.prog 121 #[.pointer (some ⟨b, 0, none⟩), .pointer (some ⟨c, 0, none⟩)] w fun e w' => e = .returned (.tuple #[.int .i64 (wrap64 (x.n * y.n)), .bool (wrap64 ((wrap64 (x.n * y.n)).tdiv x.n) == y.n)]) ∧ Below w.heap.size w w' := by
 have x1 := hx.cell1
 have y1 := hy.cell1
 clear hx hy
 have hne : x.n ≠ 0 := by simpa using h0
 cases h1 : x.n == -1
 · clear h12
   go_enter Tryz.func121, Tryz.ntmps121
   go_wp2_with fail
   go_quiet (fail)
   go_wp2
   go_ret2
   exact ⟨rfl, ⟨rfl, rfl, rfl, Nat.le_refl _, fun _ _ => rfl⟩⟩
 · have h2 : (y.n == -9223372036854775808) = false := by rw [h1] at h12; exact h12
   clear h12
   go_enter Tryz.func121, Tryz.ntmps121
   go_wp2_with fail
   go_quiet (fail)
   go_wp2
   go_ret2
   exact ⟨rfl, ⟨rfl, rfl, rfl, Nat.le_refl _, fun _ _ => rfl⟩⟩
theorem mul1_c (x y : Val) (b c : Nat) (w : World) (hx : Bx w b x) (hy : Bx w c y) :
 Calls Tryz.prog 121 #[.pointer (some ⟨b, 0, none⟩), .pointer (some ⟨c, 0, none⟩)] w fun e w' => e = .returned (.tuple #[.int .i64 (mulIs x.n y.n), .bool (mulFits x.n y.n)]) ∧ Below w.heap.size w w' := by
 unfold mulIs mulFits
 cases h0 : x.n == 0
 · cases h12 : x.n == -1 && y.n == -9223372036854775808
   · exact mul1_some x y b c w hx hy h0 h12
   · obtain ⟨h1, h2⟩ := Bool.and_eq_true_iff.1 h12
     exact mul1_min x y b c w hx hy h0 h1 h2
 · exact mul1_zero x b c w hx h0
theorem enAdd : ∀ args w, (callFunc 119 args).run Tryz.prog w = .ok (.enter 119 args) w := fun _ _ => by kernel_rfl
def addR (x y : Val) : Val × Bool := comp x y (wrap64 (x.n + y.n)) (decide (x.n < wrap64 (x.n + y.n)) == decide (0 < y.n))
set_option maxHeartbeats 400000 in
theorem add_c (x y : Val) (w : World) :
 Calls Tryz.prog 108 #[x.v, y.v] w fun e w' => e = .returned (.tuple #[(addR x y).1.v, .bool (addR x y).2]) ∧ Below w.heap.size w w' := by
 obtain ⟨R, hR⟩ : ∃ R, addR x y = R := ⟨_, rfl⟩
 have HR := Lib.hid hR
 rw [hR]
 clear hR
 have hmf : ∀ (fn : Fn) (first cap : Array Value) (w : World), (Instr.makeFunc fn first cap).run Tryz.prog w = .ok (.func fn first cap) w := fun _ _ _ _ => rfl
 go_enter Tryz.func108, Tryz.ntmps108
 go_wp2_with fail
 refine (compute_c x y 119 _ _ (wrap64 (x.n + y.n)) (decide (x.n < wrap64 (x.n + y.n)) == decide (0 < y.n)) _ enAdd ?_).mono ?_
 · intro w1 hb1
   exact add1_c x y _ _ w1 ((((Bx.new w x).alloc _).alloc _).after hb1) ((((Bx.new1 w y _)).alloc _).after hb1)
 rintro e w1 ⟨rfl, hb1⟩
 have hrr : comp x y (wrap64 (x.n + y.n)) (decide (x.n < wrap64 (x.n + y.n)) == decide (0 < y.n)) = R := HR.out
 rw [hrr]
 clear hrr
 have r1 : Bx w1 (w.heap.size + 2) nl := (Bx.new2 w nl _ _).below hb1 (by simp)
 have hb : Below w.heap.size w w1 := (below_three _ _ _ _).trans (hb1.mono (by simp; omega))
 clear hb1
 obtain ⟨rv, ok⟩ := R
 have g0 := r1.cell0
 have g1 := r1.cell1
 have g2 := r1.cell2
 have f0 := r1.frozen 0
 have f1 := r1.frozen 1
 have f2 := r1.frozen 2
 go_wp2
 rw [put3_fold]
 exact ret_val2 (a := rv) Tryz.results108 rfl rfl (r1.put rv) rfl ⟨rfl, put3_below hb (by omega) rv⟩
theorem enSub : ∀ args w, (callFunc 120 args).run Tryz.prog w = .ok (.enter 120 args) w := fun _ _ => by kernel_rfl
def subR (x y : Val) : Val × Bool := comp x y (wrap64 (x.n - y.n)) (decide (wrap64 (x.n - y.n) < x.n) == decide (0 < y.n))
set_option maxHeartbeats 400000 in
theorem sub_c (x y : Val) (w : World) :
 Calls Tryz.prog 109 #[x.v, y.v] w fun e w' => e = .returned (.tuple #[(subR x y).1.v, .bool (subR x y).2]) ∧ Below w.heap.size w w' := by
 obtain ⟨R, hR⟩ : ∃ R, subR x y = R := ⟨_, rfl⟩
 have HR := Lib.hid hR
 rw [hR]
 clear hR
 have hmf : ∀ (fn : Fn) (first cap : Array Value) (w : World), (Instr.makeFunc fn first cap).run Tryz.prog w = .ok (.func fn first cap) w := fun _ _ _ _ => rfl
 go_enter Tryz.func109, Tryz.ntmps109
 go_wp2_with fail
 refine (compute_c x y 120 _ _ (wrap64 (x.n - y.n)) (decide (wrap64 (x.n - y.n) < x.n) == decide (0 < y.n)) _ enSub ?_).mono ?_
 · intro w1 hb1
   exact sub1_c x y _ _ w1 ((((Bx.new w x).alloc _).alloc _).after hb1) ((((Bx.new1 w y _)).alloc _).after hb1)
 rintro e w1 ⟨rfl, hb1⟩
 have hrr : comp x y (wrap64 (x.n - y.n)) (decide (wrap64 (x.n - y.n) < x.n) == decide (0 < y.n)) = R := HR.out
 rw [hrr]
 clear hrr
 have r1 : Bx w1 (w.heap.size + 2) nl := (Bx.new2 w nl _ _).below hb1 (by simp)
 have hb : Below w.heap.size w w1 := (below_three _ _ _ _).trans (hb1.mono (by simp; omega))
 clear hb1
 obtain ⟨rv, ok⟩ := R
 have g0 := r1.cell0
 have g1 := r1.cell1
 have g2 := r1.cell2
 have f0 := r1.frozen 0
 have f1 := r1.frozen 1
 have f2 := r1.frozen 2
 go_wp2
 rw [put3_fold]
 exact ret_val2 (a := rv) Tryz.results109 rfl rfl (r1.put rv) rfl ⟨rfl, put3_below hb (by omega) rv⟩
theorem enMul : ∀ args w, (callFunc 121 args).run Tryz.prog w = .ok (.enter 121 args) w := fun _ _ => by kernel_rfl
def mulR (x y : Val) : Val × Bool := comp x y (mulIs x.n y.n) (mulFits x.n y.n)
set_option maxHeartbeats 400000 in
theorem mul_c (x y : Val) (w : World) :
 Calls Tryz.prog 110 #[x.v, y.v] w fun e w' => e = .returned (.tuple #[(mulR x y).1.v, .bool (mulR x y).2]) ∧ Below w.heap.size w w' := by
 obtain ⟨R, hR⟩ : ∃ R, mulR x y = R := ⟨_, rfl⟩
 have HR := Lib.hid hR
 rw [hR]
 clear hR
 have hmf : ∀ (fn : Fn) (first cap : Array Value) (w : World), (Instr.makeFunc fn first cap).run Tryz.prog w = .ok (.func fn first cap) w := fun _ _ _ _ => rfl
 go_enter Tryz.func110, Tryz.ntmps110
 go_wp2_with fail
 refine (compute_c x y 121 _ _ (mulIs x.n y.n) (mulFits x.n y.n) _ enMul ?_).mono ?_
 · intro w1 hb1
   exact mul1_c x y _ _ w1 ((((Bx.new w x).alloc _).alloc _).after hb1) ((((Bx.new1 w y _)).alloc _).after hb1)
 rintro e w1 ⟨rfl, hb1⟩
 have hrr : comp x y (mulIs x.n y.n) (mulFits x.n y.n) = R := HR.out
 rw [hrr]
 clear hrr
 have r1 : Bx w1 (w.heap.size + 2) nl := (Bx.new2 w nl _ _).below hb1 (by simp)
 have hb : Below w.heap.size w w1 := (below_three _ _ _ _).trans (hb1.mono (by simp; omega))
 clear hb1
 obtain ⟨rv, ok⟩ := R
 have g0 := r1.cell0
 have g1 := r1.cell1
 have g2 := r1.cell2
 have f0 := r1.frozen 0
 have f1 := r1.frozen 1
 have f2 := r1.frozen 2
 go_wp2
 rw [put3_fold]
 exact ret_val2 (a := rv) Tryz.results110 rfl rfl (r1.put rv) rfl ⟨rfl, put3_below hb (by omega) rv⟩
attribute [local go_sem ↓] run_eqV run_neV
def dec (strong weak : Val) : Val → List Val → Val
 | ans, [] => ans
 | ans, v :: r => if v.eq strong then strong else dec strong weak (if v.eq weak then ans else nl) r
theorem dec_drop (strong weak ans : Val) (vs : List Val) (k : Nat) (v : Val) (h : vs[k]? = some v) :
 dec strong weak ans (vs.drop k) = if v.eq strong then strong else dec strong weak (if v.eq weak then ans else nl) (vs.drop (k + 1)) := by
 have hlt : k < vs.length := (List.getElem?_eq_some_iff.1 h).1
 have hv : vs[k] = v := (List.getElem?_eq_some_iff.1 h).2
 rw [List.drop_eq_getElem_cons hlt, hv, dec]
set_option maxHeartbeats 2000000 in
theorem decide_some (strong : Val) (b off n c : Nat) (vs : List Val) (w : World) (hn : vs.length = n) (hmax : n ≤ maxLen) (hlt : b < w.heap.size)
 (hs : ∀ i (a : Val), vs[i]? = some a → w.cell? ⟨b, off + i * 3, none⟩ = some (.int .i64 a.k) ∧ w.cell? ⟨b, off + i * 3 + 1, none⟩ = some (.int .i64 a.n) ∧ w.cell? ⟨b, off + i * 3 + 2, none⟩ = some (.string a.s)) :
 Calls Tryz.prog 122 #[strong.v, .slice (some ⟨b, off, none⟩) n c] w fun e w' => e = .returned (dec strong (nt strong) (nt strong) vs).v ∧ Below w.heap.size w w' := by
 unfold maxLen at hmax
 have Hn := Lib.hid hn
 have Hs := Lib.hid hs
 clear hn hs
 obtain ⟨weak, hweak⟩ : ∃ weak, nt strong = weak := ⟨_, rfl⟩
 have Hw := Lib.hid hweak
 rw [hweak]
 clear hweak
 go_enter Tryz.func122, Tryz.ntmps122
 go_wp2_with fail
 refine (not_c strong _).mono ?_
 rintro e w1 ⟨rfl, hb1⟩
 rw [Hw.out]
 have s1' : Bx w1 w.heap.size strong := ((Bx.new w strong).alloc _).after hb1
 have r1 : Bx w1 (w.heap.size + 1) nl := (Bx.new1 w nl _).below hb1 (by simp)
 have hb : Below w.heap.size w w1 := ((below_one _ _).alloc (by simp) _).trans (hb1.mono (by simp; omega))
 clear hb1
 go_wp2_with fail
 go_loopw [14] (fun i wr => ∃ (k : Nat) (ans : Val), k ≤ n ∧ i = .int .i64 k ∧ Bx wr w.heap.size strong ∧ Bx wr (w.heap.size + 1) nl ∧ Bx wr w1.heap.size weak ∧ Bx wr (w1.heap.size + 1) ans ∧ Below w.heap.size w wr ∧ w1.heap.size + 2 ≤ wr.heap.size ∧ Hid (dec strong weak ans (vs.drop k) = dec strong weak weak vs))
  (fun i _ => n - (intOf i).toNat)
 case atStart =>
  refine ⟨0, weak, Nat.zero_le _, rfl, (s1'.alloc _).alloc _, (r1.alloc _).alloc _, (Bx.new w1 weak).alloc _, Bx.new1 w1 weak _, (hb.alloc hb.size _).alloc (by simp; have := hb.size; omega) _, by simp, rfl⟩
 case round =>
  obtain ⟨k, ans, hk, rfl, bs, br, bw, ba, hbr, hsz, hinv⟩ := hrel
  by_cases hlt' : k < n
  · obtain ⟨v, hv⟩ : ∃ v, vs[k]? = some v := ⟨vs[k]'(by rw [Hn.out]; exact hlt'), List.getElem?_eq_getElem _⟩
    obtain ⟨c0, c1, c2⟩ := Hs.out k v hv
    have d0 := (hbr.cell (p := ⟨b, off + k * 3, none⟩) hlt).trans c0
    have d1 := (hbr.cell (p := ⟨b, off + k * 3 + 1, none⟩) hlt).trans c1
    have d2 := (hbr.cell (p := ⟨b, off + k * 3 + 2, none⟩) hlt).trans c2
    have Hv := Lib.hid hv
    clear c0 c1 c2 hv
    have s0 := bs.cell0
    have s1 := bs.cell1
    have s2 := bs.cell2
    have l0 := bs.lt
    have l1 := br.lt
    have l2 := bw.lt
    have l3 := ba.lt
    have k0 := bw.cell0
    have k1 := bw.cell1
    have k2 := bw.cell2
    cases he : Val.eq ⟨v.k, v.n, v.s⟩ ⟨strong.k, strong.n, strong.s⟩
    · have a0 := ba.cell0
      have a1 := ba.cell1
      have a2 := ba.cell2
      have f0 := ba.frozen 0
      have f1 := ba.frozen 1
      have f2 := ba.frozen 2
      have hstep := dec_drop strong weak ans vs k v Hv.out
      rw [show v.eq strong = false from he] at hstep
      cases hw : Val.eq ⟨v.k, v.n, v.s⟩ ⟨weak.k, weak.n, weak.s⟩
      · rw [show v.eq weak = false from hw] at hstep
        have Hst := Lib.hid hstep
        clear hstep
        go_wp2
        go_roundw
        case rel =>
         rw [put3_fold]
         have q1 : w.heap.size ≠ w1.heap.size + 1 := by have := s1'.lt; omega
         have q2 : w.heap.size + 1 ≠ w1.heap.size + 1 := by have := r1.lt; omega
         have q3 : w.heap.size ≤ (put3 wr (w1.heap.size + 1) nl).heap.size := by rw [put3_size]; exact hbr.size
         have q4 : w.heap.size ≤ w1.heap.size + 1 := by have := hb.size; omega
         exact ⟨k + 1, nl, by omega, by go_num, (put3_other bs q1).alloc _, (put3_other br q2).alloc _, (put3_other bw (by omega)).alloc _, (ba.put nl).alloc _, (put3_below hbr q4 nl).alloc q3 _, by simp [put3_size]; omega, Hst.out.symm.trans hinv.out⟩
        case measure => simp [intOf]; omega
      · rw [show v.eq weak = true from hw] at hstep
        have Hst := Lib.hid hstep
        clear hstep
        go_wp2
        go_roundw
        case rel =>
         exact ⟨k + 1, ans, by omega, by go_num, bs.alloc _, br.alloc _, bw.alloc _, ba.alloc _, hbr.alloc hbr.size _, by simp; omega, Hst.out.symm.trans hinv.out⟩
        case measure => simp [intOf]; omega
    · have hstep := dec_drop strong weak ans vs k v Hv.out
      rw [show v.eq strong = true from he, if_pos rfl] at hstep
      have Hst := Lib.hid (hstep.symm.trans hinv.out)
      clear hstep
      have a0 := br.cell0
      have a1 := br.cell1
      have a2 := br.cell2
      have f0 := br.frozen 0
      have f1 := br.frozen 1
      have f2 := br.frozen 2
      go_wp2
      rw [← Hst.out, put3_fold]
      have q3 : w.heap.size ≤ (put3 wr (w.heap.size + 1) strong).heap.size := by rw [put3_size]; exact hbr.size
      exact ret_val (a := strong) Tryz.results122 rfl ((br.put strong).alloc _) rfl ⟨rfl, (put3_below hbr (by omega) strong).alloc q3 _⟩
  · have hkn : k = n := by omega
    have hstep := hinv.out
    rw [List.drop_eq_nil_of_le (by rw [Hn.out]; omega)] at hstep
    have Hst := Lib.hid hstep
    clear hstep hkn
    have a0 := ba.cell0
    have a1 := ba.cell1
    have a2 := ba.cell2
    have r0 := br.cell0
    have r2 := br.cell1
    have r3 := br.cell2
    have f0 := br.frozen 0
    have f1 := br.frozen 1
    have f2 := br.frozen 2
    go_wp2
    rw [← Hst.out, put3_fold]
    exact ret_val (a := ans) Tryz.results122 rfl (br.put ans) rfl ⟨rfl, put3_below hbr (by omega) ans⟩
set_option maxHeartbeats 400000 in
theorem decide_nil (strong : Val) (A : Option Addr) (c : Nat) (w : World) :
 Calls Tryz.prog 122 #[strong.v, .slice A 0 c] w fun e w' => e = .returned (nt strong).v ∧ Below w.heap.size w w' := by
 obtain ⟨weak, hweak⟩ : ∃ weak, nt strong = weak := ⟨_, rfl⟩
 have Hw := Lib.hid hweak
 rw [hweak]
 clear hweak
 go_enter Tryz.func122, Tryz.ntmps122
 go_wp2_with fail
 refine (not_c strong _).mono ?_
 rintro e w1 ⟨rfl, hb1⟩
 rw [Hw.out]
 have r1 : Bx w1 (w.heap.size + 1) nl := (Bx.new1 w nl _).below hb1 (by simp)
 have hb : Below w.heap.size w w1 := ((below_one _ _).alloc (by simp) _).trans (hb1.mono (by simp; omega))
 clear hb1
 go_wp2_with fail
 have r2 : Bx ((w1.alloc (.cells #[.int .i64 weak.k, .int .i64 weak.n, .string weak.s] 46)).alloc (.cells #[.int .i64 weak.k, .int .i64 weak.n, .string weak.s] 46)) (w.heap.size + 1) nl := (r1.alloc _).alloc _
 have ba : Bx ((w1.alloc (.cells #[.int .i64 weak.k, .int .i64 weak.n, .string weak.s] 46)).alloc (.cells #[.int .i64 weak.k, .int .i64 weak.n, .string weak.s] 46)) (w1.heap.size + 1) weak := Bx.new1 w1 weak _
 have hb2 : Below w.heap.size w ((w1.alloc (.cells #[.int .i64 weak.k, .int .i64 weak.n, .string weak.s] 46)).alloc (.cells #[.int .i64 weak.k, .int .i64 weak.n, .string weak.s] 46)) := (hb.alloc hb.size _).alloc (by simp; have := hb.size; omega) _
 generalize ((w1.alloc (.cells #[.int .i64 weak.k, .int .i64 weak.n, .string weak.s] 46)).alloc (.cells #[.int .i64 weak.k, .int .i64 weak.n, .string weak.s] 46)) = w2 at *
 have a0 := r2.cell0
 have a1 := r2.cell1
 have a2 := r2.cell2
 have f0 := r2.frozen 0
 have f1 := r2.frozen 1
 have f2 := r2.frozen 2
 have b0 := ba.cell0
 have b1 := ba.cell1
 have b2 := ba.cell2
 refine wp_loop_rounds 1 ?_
 rw [rounds_succ]
 go_wp2
 rw [put3_fold]
 exact ret_val (a := weak) Tryz.results122 rfl (r2.put weak) rfl ⟨rfl, put3_below hb2 (by omega) weak⟩
theorem decide_c (strong : Val) (A : Option Addr) (n c : Nat) (vs : List Val) (w : World) (hn : vs.length = n) (hmax : n ≤ maxLen) (hs : Sl w A vs) :
 Calls Tryz.prog 122 #[strong.v, .slice A n c] w fun e w' => e = .returned (dec strong (nt strong) (nt strong) vs).v ∧ Below w.heap.size w w' := by
 rcases hs with rfl | ⟨b, off, rfl, hlt, h⟩
 · obtain rfl : n = 0 := hn.symm
   exact decide_nil strong A c w
 · exact decide_some strong b off n c vs w hn hmax hlt h
def andV (vs : List Val) : Val := dec ff (nt ff) (nt ff) vs
def orV (vs : List Val) : Val := dec tt (nt tt) (nt tt) vs
set_option maxHeartbeats 400000 in
theorem and_c (A : Option Addr) (n c : Nat) (vs : List Val) (w : World) (hn : vs.length = n) (hmax : n ≤ maxLen) (hs : Sl w A vs) :
 Calls Tryz.prog 112 #[.slice A n c] w fun e w' => e = .returned (andV vs).v ∧ Below w.heap.size w w' := by
 have Hn := Lib.hid hn
 have Hs := Lib.hid hs
 clear hn hs
 go_enter Tryz.func112, Tryz.ntmps112
 go_wp2_with fail
 refine (truth_c false _).mono ?_
 rintro e w1 ⟨rfl, hb1⟩
 have r1 : Bx w1 w.heap.size nl := (Bx.new w nl).after hb1
 have hb : Below w.heap.size w w1 := (below_one _ _).trans (hb1.mono (by simp))
 have Hs1 : Hid (Sl w1 A vs) := Hs.out.after hb
 clear hb1
 go_wp2_with fail
 refine (decide_c ff A n c vs w1 Hn.out hmax Hs1.out).mono ?_
 rintro e w2 ⟨rfl, hb2⟩
 have r2 := r1.after hb2
 have hbw := hb.trans (hb2.mono hb.size)
 clear hb2 r1 hb
 have a0 := r2.cell0
 have a1 := r2.cell1
 have a2 := r2.cell2
 have f0 := r2.frozen 0
 have f1 := r2.frozen 1
 have f2 := r2.frozen 2
 go_wp2
 rw [put3_fold]
 exact ret_val (a := dec ff (nt ff) (nt ff) vs) Tryz.results112 rfl (r2.put _) rfl ⟨rfl, put3_below hbw (by omega) _⟩
set_option maxHeartbeats 400000 in
theorem or_c (A : Option Addr) (n c : Nat) (vs : List Val) (w : World) (hn : vs.length = n) (hmax : n ≤ maxLen) (hs : Sl w A vs) :
 Calls Tryz.prog 113 #[.slice A n c] w fun e w' => e = .returned (orV vs).v ∧ Below w.heap.size w w' := by
 have Hn := Lib.hid hn
 have Hs := Lib.hid hs
 clear hn hs
 go_enter Tryz.func113, Tryz.ntmps113
 go_wp2_with fail
 refine (truth_c true _).mono ?_
 rintro e w1 ⟨rfl, hb1⟩
 have r1 : Bx w1 w.heap.size nl := (Bx.new w nl).after hb1
 have hb : Below w.heap.size w w1 := (below_one _ _).trans (hb1.mono (by simp))
 have Hs1 : Hid (Sl w1 A vs) := Hs.out.after hb
 clear hb1
 go_wp2_with fail
 refine (decide_c tt A n c vs w1 Hn.out hmax Hs1.out).mono ?_
 rintro e w2 ⟨rfl, hb2⟩
 have r2 := r1.after hb2
 have hbw := hb.trans (hb2.mono hb.size)
 clear hb2 r1 hb
 have a0 := r2.cell0
 have a1 := r2.cell1
 have a2 := r2.cell2
 have f0 := r2.frozen 0
 have f1 := r2.frozen 1
 have f2 := r2.frozen 2
 go_wp2
 rw [put3_fold]
 exact ret_val (a := dec tt (nt tt) (nt tt) vs) Tryz.results113 rfl (r2.put _) rfl ⟨rfl, put3_below hbw (by omega) _⟩
end Go.Proofs.YtbpopkgpepmlcaaGreat
namespace Go.Proofs.YtbpopkgpepmlcaaGreat
open Go Go.RowKit
set_option maxRecDepth 100000
theorem ret_valX {fn : Func} {R : Ending → World → Prop} {F : Act} {w : World} {t u : Tmp} {b : Nat} {a : Val} {z : Value} (hres : fn.results = #[.cell t 46, .tmp u]) (ht : Reg.slot F t = .pointer (some ⟨b, 0, none⟩)) (hu : Reg.slot F u = z) (hb : Bx w b a) (hd : F.defers = [])
 (hR : R (.returned (.tuple #[a.v, z])) w) : bodyPost Tryz.prog fn R .ret F w := by
 have h0 := hb.cell0
 have h1 := hb.cell1
 have h2 := hb.cell2
 refine bodyPost_ret (v := .tuple #[a.v, z]) ?_ hd hR
 have ht' : F.tmps[t]?.getD undef = .pointer (some ⟨b, 0, none⟩) := by simpa [Reg.slot] using ht
 have hu' : F.tmps[u]?.getD undef = z := by simpa [Reg.slot] using hu
 simp [results, hres, ht', hu', go_sem, h0, h1, h2]
theorem isNull_c (x : Val) (w : World) : Calls Tryz.prog 115 #[x.v] w fun e w' => e = .returned (.bool (x.k == 0)) ∧ Below w.heap.size w w' := by
 go_enter Tryz.func115, Tryz.ntmps115
 go_wp2
 go_ret
 exact ⟨rfl, below_one _ _⟩
def anyNull : List Val → Bool
 | [] => false
 | v :: r => v.k == 0 || anyNull r
theorem anyNull_drop (vs : List Val) (k : Nat) (v : Val) (h : vs[k]? = some v) : anyNull (vs.drop k) = (v.k == 0 || anyNull (vs.drop (k + 1))) := by
 have hlt : k < vs.length := (List.getElem?_eq_some_iff.1 h).1
 have hv : vs[k] = v := (List.getElem?_eq_some_iff.1 h).2
 rw [List.drop_eq_getElem_cons hlt, hv, anyNull]
def unl (t : Bool) (vs : List Val) : Val := if anyNull vs then nl else tv t
set_option maxHeartbeats 2000000 in
theorem unlessNull_c (t : Bool) (A : Option Addr) (n c : Nat) (vs : List Val) (w : World) (hn : vs.length = n) (hmax : n ≤ 1000) (hs : Sl w A vs) :
 Calls Tryz.prog 111 #[.bool t, .slice A n c] w fun e w' => e = .returned (unl t vs).v ∧ Below w.heap.size w w' := by
 have Hn := Lib.hid hn
 have Hs := Lib.hid hs
 obtain ⟨R, hR⟩ : ∃ R, unl t vs = R := ⟨_, rfl⟩
 rw [hR]
 have HR := Lib.hid hR
 clear hn hs hR
 go_enter Tryz.func111, Tryz.ntmps111
 go_wp2_with fail
 go_loopw [9] (fun i wr => ∃ k : Nat, k ≤ n ∧ i = .int .i64 k ∧ Bx wr w.heap.size nl ∧ Below w.heap.size w wr ∧ Hid (anyNull (vs.drop k) = anyNull vs)) (fun i _ => n - (intOf i).toNat)
 case atStart => exact ⟨0, Nat.zero_le _, rfl, Bx.new w nl, below_one _ _, rfl⟩
 case round =>
  obtain ⟨k, hk, rfl, br, hbr, hinv⟩ := hrel
  by_cases hlt' : k < n
  · obtain ⟨v, hv⟩ : ∃ v, vs[k]? = some v := ⟨vs[k]'(by rw [Hn.out]; exact hlt'), List.getElem?_eq_getElem _⟩
    rcases Hs.out with h0 | ⟨b, off, rfl, hlt, hc⟩
    · rw [h0] at hv; simp at hv
    obtain ⟨c0, c1, c2⟩ := hc k v hv
    have d0 := (hbr.cell (p := ⟨b, off + k * 3, none⟩) hlt).trans c0
    have d1 := (hbr.cell (p := ⟨b, off + k * 3 + 1, none⟩) hlt).trans c1
    have d2 := (hbr.cell (p := ⟨b, off + k * 3 + 2, none⟩) hlt).trans c2
    have hstep := anyNull_drop vs k v hv
    rw [hinv.out] at hstep
    clear c0 c1 c2 hc hv hinv
    go_wp2_with fail
    refine (isNull_c v _).mono ?_
    rintro e w1 ⟨rfl, hb1⟩
    have br1 : Bx w1 w.heap.size nl := (br.alloc _).after hb1
    have hbr1 : Below w.heap.size w w1 := (hbr.alloc hbr.size _).trans (hb1.mono (by simp; have := hbr.size; omega))
    clear hb1 br hbr d0 d1 d2
    cases hz : v.k == 0
    · rw [hz] at hstep
      have Hst := Lib.hid hstep
      clear hstep
      go_wp2
      go_roundw
      case rel => exact ⟨k + 1, by omega, by go_num, br1, hbr1, Lib.hid (by have := Hst.out; simpa using this.symm)⟩
      case measure => simp [intOf]; omega
    · rw [hz] at hstep
      have hRn : R = nl := by rw [← HR.out]; unfold unl; rw [hstep]; rfl
      have HRn := Lib.hid hRn
      clear hstep hRn
      have g0 := br1.cell0
      have g1 := br1.cell1
      have g2 := br1.cell2
      have f0 := br1.frozen 0
      have f1 := br1.frozen 1
      have f2 := br1.frozen 2
      go_wp2
      rw [HRn.out]
      exact ret_val (a := nl) Tryz.results111 rfl (br1.put nl) rfl ⟨rfl, put3_below hbr1 (Nat.le_refl _) nl⟩
  · have hkn : k = n := by omega
    have hstep := hinv.out
    rw [List.drop_eq_nil_of_le (by rw [Hn.out]; omega)] at hstep
    have hRt : R = tv t := by rw [← HR.out]; unfold unl; rw [← hstep]; rfl
    have HRt := Lib.hid hRt
    clear hstep hinv hRt
    go_wp2_with fail
    refine (truth_c t _).mono ?_
    rintro e w1 ⟨rfl, hb1⟩
    have br1 : Bx w1 w.heap.size nl := br.after hb1
    have hbr1 : Below w.heap.size w w1 := hbr.trans (hb1.mono hbr.size)
    clear hb1 br hbr
    obtain ⟨tt', htt⟩ : ∃ tt', tv t = tt' := ⟨_, rfl⟩
    rw [htt] at HRt ⊢
    clear htt
    have g0 := br1.cell0
    have g1 := br1.cell1
    have g2 := br1.cell2
    have f0 := br1.frozen 0
    have f1 := br1.frozen 1
    have f2 := br1.frozen 2
    go_wp2
    rw [HRt.out]
    exact ret_val (a := tt') Tryz.results111 rfl (br1.put tt') rfl ⟨rfl, put3_below hbr1 (Nat.le_refl _) tt'⟩
def conR (x : Val) : Val × Int := if mayB x then (x, 0) else (nl, 30)
set_option maxHeartbeats 1000000 in
theorem constant_c (x : Val) (w : World) (hz : x.s.size ≤ maxLen) : Calls Tryz.prog 93 #[x.v] w fun e w' => e = .returned (.tuple #[(conR x).1.v, .int .i64 (conR x).2]) ∧ Below w.heap.size w w' := by
 have Hz := Lib.hid hz
 obtain ⟨m, hm⟩ : ∃ m, mayB x = m := ⟨_, rfl⟩
 have e0 : conR x = if m then (x, 0) else (nl, 30) := by unfold conR; rw [hm]
 rw [e0]
 have Hm := Lib.hid hm
 clear hz hm e0
 go_enter Tryz.func93, Tryz.ntmps93
 go_wp2_with fail
 refine (may_c x _ Hz.out).mono ?_
 rintro e w1 ⟨rfl, hb1⟩
 rw [Hm.out]
 have bx : Bx w1 w.heap.size x := ((Bx.new w x).alloc _).after hb1
 have br : Bx w1 (w.heap.size + 1) nl := (Bx.new1 w nl _).below hb1 (by simp)
 have hb : Below w.heap.size w w1 := (below_two _ _ _).trans (hb1.mono (by simp; omega))
 clear hb1
 have x0 := bx.cell0
 have x1 := bx.cell1
 have x2 := bx.cell2
 have g0 := br.cell0
 have g1 := br.cell1
 have g2 := br.cell2
 have f0 := br.frozen 0
 have f1 := br.frozen 1
 have f2 := br.frozen 2
 cases m
 · go_wp2
   exact ret_valX (a := nl) (z := .int .i64 30) Tryz.results93 rfl rfl (br.put nl) rfl ⟨rfl, put3_below hb (by omega) nl⟩
 · go_wp2
   exact ret_valX (a := x) (z := .int .i64 0) Tryz.results93 rfl rfl (br.put x) rfl ⟨rfl, put3_below hb (by omega) x⟩
def vcolR (row : List Val) (n : Int) : Val × Int := if n < 0 then (nl, 30) else match row[n.toNat]? with
 | none => (nl, 30)
 | some x => (x, 0)
set_option maxHeartbeats 1000000 in
theorem vcol_low (b : Nat) (n : Int) (w : World) (hn : n < 0) :
 Calls Tryz.prog 92 #[.pointer (some ⟨b, 0, none⟩), .int .i64 n] w fun e w' => e = .returned (.tuple #[nl.v, .int .i64 30]) ∧ Below w.heap.size w w' := by
 have h1 : decide (n < 0) = true := decide_eq_true hn
 clear hn
 go_enter Tryz.func92, Tryz.ntmps92
 go_wp2
 exact ret_valX (a := nl) (z := .int .i64 30) Tryz.results92 rfl rfl (Bx.new w nl) rfl ⟨rfl, below_one _ _⟩
set_option maxHeartbeats 1000000 in
theorem vcol_high (b : Nat) (n m : Nat) (c : Nat) (A : Option Addr) (v : Value) (w : World) (hk : Vx w b v (.slice A m c)) (hn : m ≤ n) :
 Calls Tryz.prog 92 #[.pointer (some ⟨b, 0, none⟩), .int .i64 n] w fun e w' => e = .returned (.tuple #[nl.v, .int .i64 30]) ∧ Below w.heap.size w w' := by
 have c1 := hk.cell1
 have hlt := hk.lt
 have h1 : decide ((n : Int) < 0) = false := decide_eq_false (by omega)
 have h2 : decide ((m : Int) ≤ n) = true := decide_eq_true (by omega)
 clear hk
 go_enter Tryz.func92, Tryz.ntmps92
 go_wp2
 exact ret_valX (a := nl) (z := .int .i64 30) Tryz.results92 rfl rfl (Bx.new w nl) rfl ⟨rfl, below_one _ _⟩
set_option maxHeartbeats 1000000 in
theorem vcol_in (b : Nat) (n m : Nat) (c off g : Nat) (x : Val) (v : Value) (w : World) (hk : Vx w b v (.slice (some ⟨g, off, none⟩) m c)) (hn : n < m) (hg : g < w.heap.size)
 (e0 : w.cell? ⟨g, off + n * 3, none⟩ = some (.int .i64 x.k)) (e1 : w.cell? ⟨g, off + n * 3 + 1, none⟩ = some (.int .i64 x.n)) (e2 : w.cell? ⟨g, off + n * 3 + 2, none⟩ = some (.string x.s)) :
 Calls Tryz.prog 92 #[.pointer (some ⟨b, 0, none⟩), .int .i64 n] w fun e w' => e = .returned (.tuple #[x.v, .int .i64 0]) ∧ Below w.heap.size w w' := by
 have c1 := hk.cell1
 have hlt := hk.lt
 have h1 : decide ((n : Int) < 0) = false := decide_eq_false (by omega)
 have h2 : decide ((m : Int) ≤ n) = false := decide_eq_false (by omega)
 clear hk
 go_enter Tryz.func92, Tryz.ntmps92
 go_wp2
 exact ret_valX (a := x) (z := .int .i64 0) Tryz.results92 rfl rfl (Bx.new w x) rfl ⟨rfl, below_one _ _⟩
theorem vcol_c (b : Nat) (n : Int) (m c : Nat) (A : Option Addr) (row : List Val) (v : Value) (w : World) (hk : Vx w b v (.slice A m c)) (hl : row.length = m) (hs : Sl w A row) :
 Calls Tryz.prog 92 #[.pointer (some ⟨b, 0, none⟩), .int .i64 n] w fun e w' => e = .returned (.tuple #[(vcolR row n).1.v, .int .i64 (vcolR row n).2]) ∧ Below w.heap.size w w' := by
 unfold vcolR
 by_cases hn : n < 0
 · rw [if_pos hn]
   exact vcol_low b n w hn
 · rw [if_neg hn]
   obtain ⟨i, rfl⟩ : ∃ i : Nat, n = i := ⟨n.toNat, by omega⟩
   rw [Int.toNat_natCast]
   cases h : row[i]? with
   | none => exact vcol_high b i m c A v w hk (by rw [← hl]; exact List.getElem?_eq_none_iff.1 h)
   | some x =>
     have hlt := (List.getElem?_eq_some_iff.1 h).1
     rcases hs with h0 | ⟨g, off, rfl, hg, hc⟩
     · rw [h0] at h; simp at h
     · obtain ⟨e0, e1, e2⟩ := hc i x h
       exact vcol_in b i m c off g x v w hk (by omega) hg e0 e1 e2
set_option maxHeartbeats 1000000 in
theorem vresult_one (b : Nat) (x : Val) (v u : Value) (B : Nat) (w : World) (hk : Vx w b v u) (ho : OwnU w B v [x]) :
 Calls Tryz.prog 62 #[.pointer (some ⟨b, 0, none⟩)] w fun e w' => e = .returned (.tuple #[x.v, .int .i64 0]) ∧ Below w.heap.size w w' := by
 have c0 := hk.cell0
 have hlt := hk.lt
 rcases ho.shape with ⟨_, h0⟩ | ⟨g, c, rfl, hc, hm, hcell⟩
 · cases h0
 have hg := (ho.lt g rfl).2
 obtain ⟨e0, e1, e2⟩ := hcell 0 x rfl
 rw [Nat.zero_mul] at e0 e1 e2
 rw [Nat.zero_add] at e1 e2
 clear hk ho hcell
 go_enter Tryz.func62, Tryz.ntmps62
 go_wp2
 exact ret_valX (a := x) (z := .int .i64 0) Tryz.results62 rfl rfl (Bx.new w x) rfl ⟨rfl, below_one _ _⟩
set_option maxHeartbeats 1000000 in
theorem vresult_bad (b : Nat) (ks : List Val) (v u : Value) (B : Nat) (w : World) (hk : Vx w b v u) (ho : OwnU w B v ks) (hl : ks.length ≠ 1) :
 Calls Tryz.prog 62 #[.pointer (some ⟨b, 0, none⟩)] w fun e w' => e = .returned (.tuple #[nl.v, .int .i64 30]) ∧ Below w.heap.size w w' := by
 have c0 := hk.cell0
 have hlt := hk.lt
 have hl2 : ((ks.length : Int) != 1) = true := by simp; omega
 rcases ho.shape with ⟨rfl, h0⟩ | ⟨g, c, rfl, hc, hm, hcell⟩
 all_goals
  clear hk ho
  go_enter Tryz.func62, Tryz.ntmps62
  go_wp2
  exact ret_valX (a := nl) (z := .int .i64 30) Tryz.results62 rfl rfl ((Bx.new w nl).alloc _) rfl ⟨rfl, below_two _ _ _⟩
theorem ev_indexC {F : Act} {w : World} {t : Tmp} {b off n c : Nat} {o : Oper} (k : Nat) (hk : k < n) (ho : o.op = .indexAddr 41 (.tmp t) (.const (.int .i64 k))) (ht : Reg.slot F t = .slice (some ⟨b, off, none⟩) n c) :
 (execOp F.eval o).run Tryz.prog w = .ok (.value (.pointer (some ⟨b, off + k * 3, none⟩))) w := by
 have e1 : F.eval (.tmp t) = .slice (some ⟨b, off, none⟩) n c := ht
 have e2 : F.eval (.const (.int .i64 k)) = .int .i64 k := rfl
 have e0 : (execOp F.eval o).run Tryz.prog w = ((Instr.indexAt 41 (.slice (some ⟨b, off, none⟩) n c) (.int .i64 k)).run Tryz.prog w).andThen fun v w' => .ok (.value v) w' := by
  simp only [execOp, ho, e1, e2, Sem.run_bind, Sem.run_pure]
 rw [e0]
 go_simp
theorem ev_eqI {P : Program} {F : Act} {w : World} {t : Tmp} {k : Int} {a : Int} {o : Oper} (ho : o.op = .binOp .eql 3 (.tmp t) (.const (.int .i64 k)) 3) (ht : Reg.slot F t = .int .i64 a) :
 (execOp F.eval o).run P w = .ok (.value (.bool (a == k))) w := by
 have e1 : F.eval (.tmp t) = .int .i64 a := ht
 have e2 : F.eval (.const (.int .i64 k)) = .int .i64 k := rfl
 simp only [execOp, ho, e1, e2]
 simp [go_sem]
theorem ev_ltI {P : Program} {F : Act} {w : World} {t : Tmp} {k : Int} {a : Int} {o : Oper} (ho : o.op = .binOp .lss 3 (.tmp t) (.const (.int .i64 k)) 3) (ht : Reg.slot F t = .int .i64 a) :
 (execOp F.eval o).run P w = .ok (.value (.bool (decide (a < k)))) w := by
 have e1 : F.eval (.tmp t) = .int .i64 a := ht
 have e2 : F.eval (.const (.int .i64 k)) = .int .i64 k := rfl
 simp only [execOp, ho, e1, e2]
 simp [go_sem]
def CJ (w w' : World) : Prop := (∃ z, Bx w' w.heap.size z) ∧ Below w.heap.size w w'
theorem CJ.after {w w' w'' : World} (h : CJ w w') (hb : Below w'.heap.size w' w'') : CJ w w'' := ⟨⟨h.1.choose, h.1.choose_spec.after hb⟩, h.2.trans (hb.mono h.2.size)⟩
theorem CJ.put {w w' : World} (h : CJ w w') (a : Val) : CJ w (put3 w' w.heap.size a) := ⟨⟨a, h.1.choose_spec.put a⟩, put3_below h.2 (Nat.le_refl _) a⟩
theorem CJ.drew {w w' : World} (h : CJ w w') : CJ w w'.drew := ⟨h.1, ⟨h.2.os, h.2.tape, h.2.output, h.2.size, h.2.block⟩⟩
theorem CJ.first (w : World) : CJ w (w.alloc (.cells #[.int .i64 nl.k, .int .i64 nl.n, .string nl.s] 46)) := ⟨⟨nl, Bx.new w nl⟩, below_one _ _⟩
def cmpR (op : Int) (l : List Val) : Val × Bool :=
 if op == 2 then addR (l.getD 0 nl) (l.getD 1 nl) else if op == 3 then subR (l.getD 0 nl) (l.getD 1 nl) else if op == 4 then mulR (l.getD 0 nl) (l.getD 1 nl)
 else if op == 5 then (unl (cmpV (l.getD 0 nl) (l.getD 1 nl) == 0) l, true) else if op == 6 then (unl (decide (cmpV (l.getD 0 nl) (l.getD 1 nl) < 0)) l, true)
 else if op == 7 then (andV l, true) else if op == 8 then (orV l, true) else if op == 9 then (nt (l.getD 0 nl), true) else (tv ((l.getD 0 nl).k == 0), true)
theorem enCompareV : ∀ args w, (callFunc 55 args).run Tryz.prog w = .ok (.enter 55 args) w := fun _ _ => by kernel_rfl
theorem enUnless : ∀ args w, (callFunc 111 args).run Tryz.prog w = .ok (.enter 111 args) w := fun _ _ => by kernel_rfl
theorem enAddV : ∀ args w, (callFunc 108 args).run Tryz.prog w = .ok (.enter 108 args) w := fun _ _ => by kernel_rfl
theorem enSubV : ∀ args w, (callFunc 109 args).run Tryz.prog w = .ok (.enter 109 args) w := fun _ _ => by kernel_rfl
theorem enMulV : ∀ args w, (callFunc 110 args).run Tryz.prog w = .ok (.enter 110 args) w := fun _ _ => by kernel_rfl
set_option maxHeartbeats 4000000 in
theorem comp_add (x y : Val) (A : Option Addr) (c : Nat) (w : World) (hs : Sl w A [x, y]) :
 Calls Tryz.prog 97 #[.int .i64 2, .slice A 2 c] w fun e w' => e = .returned (.tuple #[(addR x y).1.v, .bool (addR x y).2]) ∧ Below w.heap.size w w' := by
 have Hs := Lib.hid hs
 rcases hs with h0 | ⟨b, off, rfl, hlt, hc⟩
 · cases h0
 obtain ⟨c0, c1, c2⟩ := hc 0 x rfl
 obtain ⟨d0, d1, d2⟩ := hc 1 y rfl
 clear hc
 obtain ⟨R, hR⟩ : ∃ R, addR x y = R := ⟨_, rfl⟩
 rw [hR]
 have HR := Lib.hid hR
 clear hR
 go_enter Tryz.func97, Tryz.ntmps97
 go_wp2_with fail
 refine RegJ.wp_region_keep mixed (by kernel_rfl) (CJ w) (fun w' => Bx w' w.heap.size R.1) 9 (of_decide_eq_true (by kernel_rfl)) (CJ.first w).drew
  [(9, .slice (some ⟨b, off, none⟩) 2 c), (10, .pointer (some ⟨b, off + 0 * 3, none⟩)), (11, x.v), (12, .slice (some ⟨b, off, none⟩) 2 c), (13, .pointer (some ⟨b, off + 1 * 3, none⟩)), (14, y.v), (15, .tuple #[R.1.v, .bool R.2]), (16, R.1.v), (17, .bool R.2), (5, .bool R.2)] 83 rfl (by kernel_rfl) ?_ ?_
 · intro F hF w' hJ
   obtain ⟨⟨z, q⟩, hb⟩ := id hJ
   refine ⟨?_, ?_, ?_, ?_, ?_, ?_, ?_, ?_, ?_, ?_, ?_, trivial⟩
   · exact RegJ.doesP_val (by decide) hJ (ev_move rfl) (by rw [hF]; kernel_rfl) (by rw [hF]; kernel_rfl)
   · exact RegJ.doesP_val (by decide) hJ (ev_indexC (b := b) (off := off) (n := 2) (c := c) 0 (by decide) rfl (by rw [hF]; kernel_rfl)) (by rw [hF]; kernel_rfl) (by rw [hF]; kernel_rfl)
   · exact RegJ.doesP_val (by decide) hJ (ev_load3 ((hb.cell hlt).trans c0) ((hb.cell hlt).trans c1) ((hb.cell hlt).trans c2) rfl (by rw [hF]; kernel_rfl)) (by rw [hF]; kernel_rfl) (by rw [hF]; kernel_rfl)
   · exact RegJ.doesP_val (by decide) hJ (ev_move rfl) (by rw [hF]; kernel_rfl) (by rw [hF]; kernel_rfl)
   · exact RegJ.doesP_val (by decide) hJ (ev_indexC (b := b) (off := off) (n := 2) (c := c) 1 (by decide) rfl (by rw [hF]; kernel_rfl)) (by rw [hF]; kernel_rfl) (by rw [hF]; kernel_rfl)
   · exact RegJ.doesP_val (by decide) hJ (ev_load3 ((hb.cell hlt).trans d0) ((hb.cell hlt).trans d1) ((hb.cell hlt).trans d2) rfl (by rw [hF]; kernel_rfl)) (by rw [hF]; kernel_rfl) (by rw [hF]; kernel_rfl)
   · exact RegJ.doesP_call (by decide) (fun w'' h => hJ.after h) (fun w'' h hx => hx.after h) (by have h := add_c x y w'; rw [HR.out] at h; exact h) (ev_call enAddV rfl (by rw [hF]; kernel_rfl)) (by rw [hF]; kernel_rfl) (by rw [hF]; kernel_rfl)
   · exact RegJ.doesP_val (by decide) hJ (ev_extract (vs := #[R.1.v, .bool R.2]) rfl (by rw [hF]; kernel_rfl) rfl) (by rw [hF]; kernel_rfl) (by rw [hF]; kernel_rfl)
   · exact RegJ.doesP_val (by decide) hJ (ev_extract (vs := #[R.1.v, .bool R.2]) rfl (by rw [hF]; kernel_rfl) rfl) (by rw [hF]; kernel_rfl) (by rw [hF]; kernel_rfl)
   · exact RegJ.doesP_store (hJ.put _) (q.put _) (ev_store q rfl (by rw [hF]; kernel_rfl) (by rw [hF]; kernel_rfl)) rfl (by rw [hF]; kernel_rfl)
   · exact RegJ.doesP_val (by decide) hJ (ev_assign rfl) (by rw [hF]; kernel_rfl) (by rw [hF]; kernel_rfl)
 · intro w9 hJ hR
   simp only [Reg.putAll, Act.put, List.setIfInBounds_toArray, List.set_cons_zero, List.set_cons_succ]
   go_wp2
   exact ret_valX (a := R.1) (z := .bool R.2) Tryz.results97 rfl rfl hR rfl ⟨rfl, hJ.2⟩
set_option maxHeartbeats 4000000 in
theorem comp_sub (x y : Val) (A : Option Addr) (c : Nat) (w : World) (hs : Sl w A [x, y]) :
 Calls Tryz.prog 97 #[.int .i64 3, .slice A 2 c] w fun e w' => e = .returned (.tuple #[(subR x y).1.v, .bool (subR x y).2]) ∧ Below w.heap.size w w' := by
 have Hs := Lib.hid hs
 rcases hs with h0 | ⟨b, off, rfl, hlt, hc⟩
 · cases h0
 obtain ⟨c0, c1, c2⟩ := hc 0 x rfl
 obtain ⟨d0, d1, d2⟩ := hc 1 y rfl
 clear hc
 obtain ⟨R, hR⟩ : ∃ R, subR x y = R := ⟨_, rfl⟩
 rw [hR]
 have HR := Lib.hid hR
 clear hR
 go_enter Tryz.func97, Tryz.ntmps97
 go_wp2_with fail
 refine RegJ.wp_region_keep mixed (by kernel_rfl) (CJ w) (fun w' => Bx w' w.heap.size R.1) 9 (of_decide_eq_true (by kernel_rfl)) (CJ.first w).drew
  [(20, .slice (some ⟨b, off, none⟩) 2 c), (21, .pointer (some ⟨b, off + 0 * 3, none⟩)), (22, x.v), (23, .slice (some ⟨b, off, none⟩) 2 c), (24, .pointer (some ⟨b, off + 1 * 3, none⟩)), (25, y.v), (26, .tuple #[R.1.v, .bool R.2]), (27, R.1.v), (28, .bool R.2), (5, .bool R.2)] 83 rfl (by kernel_rfl) ?_ ?_
 · intro F hF w' hJ
   obtain ⟨⟨z, q⟩, hb⟩ := id hJ
   refine ⟨?_, ?_, ?_, ?_, ?_, ?_, ?_, ?_, ?_, ?_, ?_, trivial⟩
   · exact RegJ.doesP_val (by decide) hJ (ev_move rfl) (by rw [hF]; kernel_rfl) (by rw [hF]; kernel_rfl)
   · exact RegJ.doesP_val (by decide) hJ (ev_indexC (b := b) (off := off) (n := 2) (c := c) 0 (by decide) rfl (by rw [hF]; kernel_rfl)) (by rw [hF]; kernel_rfl) (by rw [hF]; kernel_rfl)
   · exact RegJ.doesP_val (by decide) hJ (ev_load3 ((hb.cell hlt).trans c0) ((hb.cell hlt).trans c1) ((hb.cell hlt).trans c2) rfl (by rw [hF]; kernel_rfl)) (by rw [hF]; kernel_rfl) (by rw [hF]; kernel_rfl)
   · exact RegJ.doesP_val (by decide) hJ (ev_move rfl) (by rw [hF]; kernel_rfl) (by rw [hF]; kernel_rfl)
   · exact RegJ.doesP_val (by decide) hJ (ev_indexC (b := b) (off := off) (n := 2) (c := c) 1 (by decide) rfl (by rw [hF]; kernel_rfl)) (by rw [hF]; kernel_rfl) (by rw [hF]; kernel_rfl)
   · exact RegJ.doesP_val (by decide) hJ (ev_load3 ((hb.cell hlt).trans d0) ((hb.cell hlt).trans d1) ((hb.cell hlt).trans d2) rfl (by rw [hF]; kernel_rfl)) (by rw [hF]; kernel_rfl) (by rw [hF]; kernel_rfl)
   · exact RegJ.doesP_call (by decide) (fun w'' h => hJ.after h) (fun w'' h hx => hx.after h) (by have h := sub_c x y w'; rw [HR.out] at h; exact h) (ev_call enSubV rfl (by rw [hF]; kernel_rfl)) (by rw [hF]; kernel_rfl) (by rw [hF]; kernel_rfl)
   · exact RegJ.doesP_val (by decide) hJ (ev_extract (vs := #[R.1.v, .bool R.2]) rfl (by rw [hF]; kernel_rfl) rfl) (by rw [hF]; kernel_rfl) (by rw [hF]; kernel_rfl)
   · exact RegJ.doesP_val (by decide) hJ (ev_extract (vs := #[R.1.v, .bool R.2]) rfl (by rw [hF]; kernel_rfl) rfl) (by rw [hF]; kernel_rfl) (by rw [hF]; kernel_rfl)
   · exact RegJ.doesP_store (hJ.put _) (q.put _) (ev_store q rfl (by rw [hF]; kernel_rfl) (by rw [hF]; kernel_rfl)) rfl (by rw [hF]; kernel_rfl)
   · exact RegJ.doesP_val (by decide) hJ (ev_assign rfl) (by rw [hF]; kernel_rfl) (by rw [hF]; kernel_rfl)
 · intro w9 hJ hR
   simp only [Reg.putAll, Act.put, List.setIfInBounds_toArray, List.set_cons_zero, List.set_cons_succ]
   go_wp2
   exact ret_valX (a := R.1) (z := .bool R.2) Tryz.results97 rfl rfl hR rfl ⟨rfl, hJ.2⟩
set_option maxHeartbeats 4000000 in
theorem comp_mul (x y : Val) (A : Option Addr) (c : Nat) (w : World) (hs : Sl w A [x, y]) :
 Calls Tryz.prog 97 #[.int .i64 4, .slice A 2 c] w fun e w' => e = .returned (.tuple #[(mulR x y).1.v, .bool (mulR x y).2]) ∧ Below w.heap.size w w' := by
 have Hs := Lib.hid hs
 rcases hs with h0 | ⟨b, off, rfl, hlt, hc⟩
 · cases h0
 obtain ⟨c0, c1, c2⟩ := hc 0 x rfl
 obtain ⟨d0, d1, d2⟩ := hc 1 y rfl
 clear hc
 obtain ⟨R, hR⟩ : ∃ R, mulR x y = R := ⟨_, rfl⟩
 rw [hR]
 have HR := Lib.hid hR
 clear hR
 go_enter Tryz.func97, Tryz.ntmps97
 go_wp2_with fail
 refine RegJ.wp_region_keep mixed (by kernel_rfl) (CJ w) (fun w' => Bx w' w.heap.size R.1) 9 (of_decide_eq_true (by kernel_rfl)) (CJ.first w).drew
  [(31, .slice (some ⟨b, off, none⟩) 2 c), (32, .pointer (some ⟨b, off + 0 * 3, none⟩)), (33, x.v), (34, .slice (some ⟨b, off, none⟩) 2 c), (35, .pointer (some ⟨b, off + 1 * 3, none⟩)), (36, y.v), (37, .tuple #[R.1.v, .bool R.2]), (38, R.1.v), (39, .bool R.2), (5, .bool R.2)] 83 rfl (by kernel_rfl) ?_ ?_
 · intro F hF w' hJ
   obtain ⟨⟨z, q⟩, hb⟩ := id hJ
   refine ⟨?_, ?_, ?_, ?_, ?_, ?_, ?_, ?_, ?_, ?_, ?_, trivial⟩
   · exact RegJ.doesP_val (by decide) hJ (ev_move rfl) (by rw [hF]; kernel_rfl) (by rw [hF]; kernel_rfl)
   · exact RegJ.doesP_val (by decide) hJ (ev_indexC (b := b) (off := off) (n := 2) (c := c) 0 (by decide) rfl (by rw [hF]; kernel_rfl)) (by rw [hF]; kernel_rfl) (by rw [hF]; kernel_rfl)
   · exact RegJ.doesP_val (by decide) hJ (ev_load3 ((hb.cell hlt).trans c0) ((hb.cell hlt).trans c1) ((hb.cell hlt).trans c2) rfl (by rw [hF]; kernel_rfl)) (by rw [hF]; kernel_rfl) (by rw [hF]; kernel_rfl)
   · exact RegJ.doesP_val (by decide) hJ (ev_move rfl) (by rw [hF]; kernel_rfl) (by rw [hF]; kernel_rfl)
   · exact RegJ.doesP_val (by decide) hJ (ev_indexC (b := b) (off := off) (n := 2) (c := c) 1 (by decide) rfl (by rw [hF]; kernel_rfl)) (by rw [hF]; kernel_rfl) (by rw [hF]; kernel_rfl)
   · exact RegJ.doesP_val (by decide) hJ (ev_load3 ((hb.cell hlt).trans d0) ((hb.cell hlt).trans d1) ((hb.cell hlt).trans d2) rfl (by rw [hF]; kernel_rfl)) (by rw [hF]; kernel_rfl) (by rw [hF]; kernel_rfl)
   · exact RegJ.doesP_call (by decide) (fun w'' h => hJ.after h) (fun w'' h hx => hx.after h) (by have h := mul_c x y w'; rw [HR.out] at h; exact h) (ev_call enMulV rfl (by rw [hF]; kernel_rfl)) (by rw [hF]; kernel_rfl) (by rw [hF]; kernel_rfl)
   · exact RegJ.doesP_val (by decide) hJ (ev_extract (vs := #[R.1.v, .bool R.2]) rfl (by rw [hF]; kernel_rfl) rfl) (by rw [hF]; kernel_rfl) (by rw [hF]; kernel_rfl)
   · exact RegJ.doesP_val (by decide) hJ (ev_extract (vs := #[R.1.v, .bool R.2]) rfl (by rw [hF]; kernel_rfl) rfl) (by rw [hF]; kernel_rfl) (by rw [hF]; kernel_rfl)
   · exact RegJ.doesP_store (hJ.put _) (q.put _) (ev_store q rfl (by rw [hF]; kernel_rfl) (by rw [hF]; kernel_rfl)) rfl (by rw [hF]; kernel_rfl)
   · exact RegJ.doesP_val (by decide) hJ (ev_assign rfl) (by rw [hF]; kernel_rfl) (by rw [hF]; kernel_rfl)
 · intro w9 hJ hR
   simp only [Reg.putAll, Act.put, List.setIfInBounds_toArray, List.set_cons_zero, List.set_cons_succ]
   go_wp2
   exact ret_valX (a := R.1) (z := .bool R.2) Tryz.results97 rfl rfl hR rfl ⟨rfl, hJ.2⟩
set_option maxHeartbeats 4000000 in
theorem comp_eq (x y : Val) (A : Option Addr) (c : Nat) (w : World) (hs : Sl w A [x, y]) :
 Calls Tryz.prog 97 #[.int .i64 5, .slice A 2 c] w fun e w' => e = .returned (.tuple #[(unl (cmpV x y == 0) [x, y]).v, .bool true]) ∧ Below w.heap.size w w' := by
 have Hs := Lib.hid hs
 rcases hs with h0 | ⟨b, off, rfl, hlt, hc⟩
 · cases h0
 obtain ⟨c0, c1, c2⟩ := hc 0 x rfl
 obtain ⟨d0, d1, d2⟩ := hc 1 y rfl
 clear hc
 obtain ⟨R, hR⟩ : ∃ R, unl (cmpV x y == 0) [x, y] = R := ⟨_, rfl⟩
 rw [hR]
 have HR := Lib.hid hR
 clear hR
 go_enter Tryz.func97, Tryz.ntmps97
 go_wp2_with fail
 refine RegJ.wp_region_keep mixed (by kernel_rfl) (CJ w) (fun w' => Bx w' w.heap.size R) 10 (of_decide_eq_true (by kernel_rfl)) (CJ.first w).drew
  [(42, .slice (some ⟨b, off, none⟩) 2 c), (43, .pointer (some ⟨b, off + 0 * 3, none⟩)), (44, x.v), (45, .slice (some ⟨b, off, none⟩) 2 c), (46, .pointer (some ⟨b, off + 1 * 3, none⟩)), (47, y.v), (48, .int .i64 (cmpV x y)), (49, .bool (cmpV x y == 0)), (50, .slice (some ⟨b, off, none⟩) 2 c), (51, R.v), (5, .bool true)] 83 rfl (by kernel_rfl) ?_ ?_
 · intro F hF w' hJ
   obtain ⟨⟨z, q⟩, hb⟩ := id hJ
   refine ⟨?_, ?_, ?_, ?_, ?_, ?_, ?_, ?_, ?_, ?_, ?_, ?_, trivial⟩
   · exact RegJ.doesP_val (by decide) hJ (ev_move rfl) (by rw [hF]; kernel_rfl) (by rw [hF]; kernel_rfl)
   · exact RegJ.doesP_val (by decide) hJ (ev_indexC (b := b) (off := off) (n := 2) (c := c) 0 (by decide) rfl (by rw [hF]; kernel_rfl)) (by rw [hF]; kernel_rfl) (by rw [hF]; kernel_rfl)
   · exact RegJ.doesP_val (by decide) hJ (ev_load3 ((hb.cell hlt).trans c0) ((hb.cell hlt).trans c1) ((hb.cell hlt).trans c2) rfl (by rw [hF]; kernel_rfl)) (by rw [hF]; kernel_rfl) (by rw [hF]; kernel_rfl)
   · exact RegJ.doesP_val (by decide) hJ (ev_move rfl) (by rw [hF]; kernel_rfl) (by rw [hF]; kernel_rfl)
   · exact RegJ.doesP_val (by decide) hJ (ev_indexC (b := b) (off := off) (n := 2) (c := c) 1 (by decide) rfl (by rw [hF]; kernel_rfl)) (by rw [hF]; kernel_rfl) (by rw [hF]; kernel_rfl)
   · exact RegJ.doesP_val (by decide) hJ (ev_load3 ((hb.cell hlt).trans d0) ((hb.cell hlt).trans d1) ((hb.cell hlt).trans d2) rfl (by rw [hF]; kernel_rfl)) (by rw [hF]; kernel_rfl) (by rw [hF]; kernel_rfl)
   · exact RegJ.doesP_call (by decide) (fun w'' h => hJ.after h) (fun w'' h hx => hx.after h) (compare_c x y w') (ev_call enCompareV rfl (by rw [hF]; kernel_rfl)) (by rw [hF]; kernel_rfl) (by rw [hF]; kernel_rfl)
   · exact RegJ.doesP_val (by decide) hJ (ev_eqI (a := cmpV x y) rfl (by rw [hF]; kernel_rfl)) (by rw [hF]; kernel_rfl) (by rw [hF]; kernel_rfl)
   · exact RegJ.doesP_val (by decide) hJ (ev_move rfl) (by rw [hF]; kernel_rfl) (by rw [hF]; kernel_rfl)
   · exact RegJ.doesP_call (by decide) (fun w'' h => hJ.after h) (fun w'' h hx => hx.after h) (by have h := unlessNull_c (cmpV x y == 0) (some ⟨b, off, none⟩) 2 c [x, y] w' rfl (by decide) (Hs.out.after hb); rw [HR.out] at h; exact h) (ev_call enUnless rfl (by rw [hF]; kernel_rfl)) (by rw [hF]; kernel_rfl) (by rw [hF]; kernel_rfl)
   · exact RegJ.doesP_store (hJ.put _) (q.put _) (ev_store q rfl (by rw [hF]; kernel_rfl) (by rw [hF]; kernel_rfl)) rfl (by rw [hF]; kernel_rfl)
   · exact RegJ.doesP_val (by decide) hJ (ev_assign rfl) (by rw [hF]; kernel_rfl) (by rw [hF]; kernel_rfl)
 · intro w9 hJ hR
   simp only [Reg.putAll, Act.put, List.setIfInBounds_toArray, List.set_cons_zero, List.set_cons_succ]
   go_wp2
   exact ret_valX (a := R) (z := .bool true) Tryz.results97 rfl rfl hR rfl ⟨rfl, hJ.2⟩
set_option maxHeartbeats 4000000 in
theorem comp_less (x y : Val) (A : Option Addr) (c : Nat) (w : World) (hs : Sl w A [x, y]) :
 Calls Tryz.prog 97 #[.int .i64 6, .slice A 2 c] w fun e w' => e = .returned (.tuple #[(unl (decide (cmpV x y < 0)) [x, y]).v, .bool true]) ∧ Below w.heap.size w w' := by
 have Hs := Lib.hid hs
 rcases hs with h0 | ⟨b, off, rfl, hlt, hc⟩
 · cases h0
 obtain ⟨c0, c1, c2⟩ := hc 0 x rfl
 obtain ⟨d0, d1, d2⟩ := hc 1 y rfl
 clear hc
 obtain ⟨R, hR⟩ : ∃ R, unl (decide (cmpV x y < 0)) [x, y] = R := ⟨_, rfl⟩
 rw [hR]
 have HR := Lib.hid hR
 clear hR
 go_enter Tryz.func97, Tryz.ntmps97
 go_wp2_with fail
 refine RegJ.wp_region_keep mixed (by kernel_rfl) (CJ w) (fun w' => Bx w' w.heap.size R) 10 (of_decide_eq_true (by kernel_rfl)) (CJ.first w).drew
  [(54, .slice (some ⟨b, off, none⟩) 2 c), (55, .pointer (some ⟨b, off + 0 * 3, none⟩)), (56, x.v), (57, .slice (some ⟨b, off, none⟩) 2 c), (58, .pointer (some ⟨b, off + 1 * 3, none⟩)), (59, y.v), (60, .int .i64 (cmpV x y)), (61, .bool (decide (cmpV x y < 0))), (62, .slice (some ⟨b, off, none⟩) 2 c), (63, R.v), (5, .bool true)] 83 rfl (by kernel_rfl) ?_ ?_
 · intro F hF w' hJ
   obtain ⟨⟨z, q⟩, hb⟩ := id hJ
   refine ⟨?_, ?_, ?_, ?_, ?_, ?_, ?_, ?_, ?_, ?_, ?_, ?_, trivial⟩
   · exact RegJ.doesP_val (by decide) hJ (ev_move rfl) (by rw [hF]; kernel_rfl) (by rw [hF]; kernel_rfl)
   · exact RegJ.doesP_val (by decide) hJ (ev_indexC (b := b) (off := off) (n := 2) (c := c) 0 (by decide) rfl (by rw [hF]; kernel_rfl)) (by rw [hF]; kernel_rfl) (by rw [hF]; kernel_rfl)
   · exact RegJ.doesP_val (by decide) hJ (ev_load3 ((hb.cell hlt).trans c0) ((hb.cell hlt).trans c1) ((hb.cell hlt).trans c2) rfl (by rw [hF]; kernel_rfl)) (by rw [hF]; kernel_rfl) (by rw [hF]; kernel_rfl)
   · exact RegJ.doesP_val (by decide) hJ (ev_move rfl) (by rw [hF]; kernel_rfl) (by rw [hF]; kernel_rfl)
   · exact RegJ.doesP_val (by decide) hJ (ev_indexC (b := b) (off := off) (n := 2) (c := c) 1 (by decide) rfl (by rw [hF]; kernel_rfl)) (by rw [hF]; kernel_rfl) (by rw [hF]; kernel_rfl)
   · exact RegJ.doesP_val (by decide) hJ (ev_load3 ((hb.cell hlt).trans d0) ((hb.cell hlt).trans d1) ((hb.cell hlt).trans d2) rfl (by rw [hF]; kernel_rfl)) (by rw [hF]; kernel_rfl) (by rw [hF]; kernel_rfl)
   · exact RegJ.doesP_call (by decide) (fun w'' h => hJ.after h) (fun w'' h hx => hx.after h) (compare_c x y w') (ev_call enCompareV rfl (by rw [hF]; kernel_rfl)) (by rw [hF]; kernel_rfl) (by rw [hF]; kernel_rfl)
   · exact RegJ.doesP_val (by decide) hJ (ev_ltI (a := cmpV x y) rfl (by rw [hF]; kernel_rfl)) (by rw [hF]; kernel_rfl) (by rw [hF]; kernel_rfl)
   · exact RegJ.doesP_val (by decide) hJ (ev_move rfl) (by rw [hF]; kernel_rfl) (by rw [hF]; kernel_rfl)
   · exact RegJ.doesP_call (by decide) (fun w'' h => hJ.after h) (fun w'' h hx => hx.after h) (by have h := unlessNull_c (decide (cmpV x y < 0)) (some ⟨b, off, none⟩) 2 c [x, y] w' rfl (by decide) (Hs.out.after hb); rw [HR.out] at h; exact h) (ev_call enUnless rfl (by rw [hF]; kernel_rfl)) (by rw [hF]; kernel_rfl) (by rw [hF]; kernel_rfl)
   · exact RegJ.doesP_store (hJ.put _) (q.put _) (ev_store q rfl (by rw [hF]; kernel_rfl) (by rw [hF]; kernel_rfl)) rfl (by rw [hF]; kernel_rfl)
   · exact RegJ.doesP_val (by decide) hJ (ev_assign rfl) (by rw [hF]; kernel_rfl) (by rw [hF]; kernel_rfl)
 · intro w9 hJ hR
   simp only [Reg.putAll, Act.put, List.setIfInBounds_toArray, List.set_cons_zero, List.set_cons_succ]
   go_wp2
   exact ret_valX (a := R) (z := .bool true) Tryz.results97 rfl rfl hR rfl ⟨rfl, hJ.2⟩
set_option maxHeartbeats 4000000 in
theorem comp_and (l : List Val) (A : Option Addr) (n c : Nat) (w : World) (hn : l.length = n) (hmax : n ≤ 1000) (hs : Sl w A l) :
 Calls Tryz.prog 97 #[.int .i64 7, .slice A n c] w fun e w' => e = .returned (.tuple #[(andV l).v, .bool true]) ∧ Below w.heap.size w w' := by
 have Hs := Lib.hid hs
 have Hn := Lib.hid hn
 obtain ⟨R, hR⟩ : ∃ R, andV l = R := ⟨_, rfl⟩
 rw [hR]
 have HR := Lib.hid hR
 clear hR hs hn
 go_enter Tryz.func97, Tryz.ntmps97
 go_wp2_with fail
 refine (and_c A n c l _ Hn.out (by unfold maxLen; omega) (Hs.out.alloc _)).mono ?_
 rintro e w1 ⟨rfl, hb1⟩
 rw [HR.out]
 have br : Bx w1 w.heap.size nl := (Bx.new w nl).after hb1
 have hb : Below w.heap.size w w1 := (below_one _ _).trans (hb1.mono (by simp))
 have g0 := br.cell0
 have g1 := br.cell1
 have g2 := br.cell2
 have f0 := br.frozen 0
 have f1 := br.frozen 1
 have f2 := br.frozen 2
 clear hb1
 go_wp2
 exact ret_valX (a := R) (z := .bool true) Tryz.results97 rfl rfl (br.put R) rfl ⟨rfl, put3_below hb (Nat.le_refl _) R⟩
set_option maxHeartbeats 4000000 in
theorem comp_or (l : List Val) (A : Option Addr) (n c : Nat) (w : World) (hn : l.length = n) (hmax : n ≤ 1000) (hs : Sl w A l) :
 Calls Tryz.prog 97 #[.int .i64 8, .slice A n c] w fun e w' => e = .returned (.tuple #[(orV l).v, .bool true]) ∧ Below w.heap.size w w' := by
 have Hs := Lib.hid hs
 have Hn := Lib.hid hn
 obtain ⟨R, hR⟩ : ∃ R, orV l = R := ⟨_, rfl⟩
 rw [hR]
 have HR := Lib.hid hR
 clear hR hs hn
 go_enter Tryz.func97, Tryz.ntmps97
 go_wp2_with fail
 refine (or_c A n c l _ Hn.out (by unfold maxLen; omega) (Hs.out.alloc _)).mono ?_
 rintro e w1 ⟨rfl, hb1⟩
 rw [HR.out]
 have br : Bx w1 w.heap.size nl := (Bx.new w nl).after hb1
 have hb : Below w.heap.size w w1 := (below_one _ _).trans (hb1.mono (by simp))
 have g0 := br.cell0
 have g1 := br.cell1
 have g2 := br.cell2
 have f0 := br.frozen 0
 have f1 := br.frozen 1
 have f2 := br.frozen 2
 clear hb1
 go_wp2
 exact ret_valX (a := R) (z := .bool true) Tryz.results97 rfl rfl (br.put R) rfl ⟨rfl, put3_below hb (Nat.le_refl _) R⟩
set_option maxHeartbeats 4000000 in
theorem comp_not (x : Val) (A : Option Addr) (c : Nat) (w : World) (hs : Sl w A [x]) :
 Calls Tryz.prog 97 #[.int .i64 9, .slice A 1 c] w fun e w' => e = .returned (.tuple #[(nt x).v, .bool true]) ∧ Below w.heap.size w w' := by
 rcases hs with h0 | ⟨b, off, rfl, hlt, hc⟩
 · cases h0
 obtain ⟨c0, c1, c2⟩ := hc 0 x rfl
 rw [Nat.zero_mul, Nat.add_zero] at c0 c1 c2
 clear hc
 obtain ⟨R, hR⟩ : ∃ R, nt x = R := ⟨_, rfl⟩
 rw [hR]
 have HR := Lib.hid hR
 clear hR
 go_enter Tryz.func97, Tryz.ntmps97
 go_wp2_with fail
 refine (not_c x _).mono ?_
 rintro e w1 ⟨rfl, hb1⟩
 rw [HR.out]
 have br : Bx w1 w.heap.size nl := (Bx.new w nl).after hb1
 have hb : Below w.heap.size w w1 := (below_one _ _).trans (hb1.mono (by simp))
 have g0 := br.cell0
 have g1 := br.cell1
 have g2 := br.cell2
 have f0 := br.frozen 0
 have f1 := br.frozen 1
 have f2 := br.frozen 2
 clear hb1
 go_wp2
 exact ret_valX (a := R) (z := .bool true) Tryz.results97 rfl rfl (br.put R) rfl ⟨rfl, put3_below hb (Nat.le_refl _) R⟩
set_option maxHeartbeats 4000000 in
theorem comp_null (x : Val) (A : Option Addr) (c : Nat) (w : World) (hs : Sl w A [x]) :
 Calls Tryz.prog 97 #[.int .i64 10, .slice A 1 c] w fun e w' => e = .returned (.tuple #[(tv (x.k == 0)).v, .bool true]) ∧ Below w.heap.size w w' := by
 rcases hs with h0 | ⟨b, off, rfl, hlt, hc⟩
 · cases h0
 obtain ⟨c0, c1, c2⟩ := hc 0 x rfl
 rw [Nat.zero_mul, Nat.add_zero] at c0 c1 c2
 clear hc
 obtain ⟨R, hR⟩ : ∃ R, tv (x.k == 0) = R := ⟨_, rfl⟩
 rw [hR]
 have HR := Lib.hid hR
 clear hR
 go_enter Tryz.func97, Tryz.ntmps97
 go_wp2_with fail
 refine (isNull_c x _).mono ?_
 rintro e w1 ⟨rfl, hb1⟩
 have br : Bx w1 w.heap.size nl := (Bx.new w nl).after hb1
 have hb : Below w.heap.size w w1 := (below_one _ _).trans (hb1.mono (by simp))
 clear hb1 c0 c1 c2
 obtain ⟨t, ht⟩ : ∃ t, (x.k == 0) = t := ⟨_, rfl⟩
 rw [ht]
 have Ht := Lib.hid ht
 clear ht
 go_wp2_with fail
 refine (truth_c t _).mono ?_
 rintro e w2 ⟨rfl, hb2⟩
 have br2 : Bx w2 w.heap.size nl := br.after hb2
 have hb3 : Below w.heap.size w w2 := hb.trans (hb2.mono hb.size)
 have hR : tv t = R := by rw [← Ht.out]; exact HR.out
 rw [hR]
 clear hR br hb hb2
 have g0 := br2.cell0
 have g1 := br2.cell1
 have g2 := br2.cell2
 have f0 := br2.frozen 0
 have f1 := br2.frozen 1
 have f2 := br2.frozen 2
 go_wp2
 exact ret_valX (a := R) (z := .bool true) Tryz.results97 rfl rfl (br2.put R) rfl ⟨rfl, put3_below hb3 (Nat.le_refl _) R⟩
theorem comp_c (op : Int) (l : List Val) (A : Option Addr) (n c : Nat) (w : World) (hop : 2 ≤ op ∧ op ≤ 10) (hn : l.length = n) (ht : l.length = takes op) (hs : Sl w A l) :
 Calls Tryz.prog 97 #[.int .i64 op, .slice A n c] w fun e w' => e = .returned (.tuple #[(cmpR op l).1.v, .bool (cmpR op l).2]) ∧ Below w.heap.size w w' := by
 subst hn
 rcases ops_cases op with rfl | rfl | rfl | rfl | rfl | rfl | rfl | rfl | rfl | ⟨h2, h3, h4, h5, h6, h7, h8, h9, h10⟩
 · match l, ht with
   | [x, y], _ => exact comp_add x y A c w hs
 · match l, ht with
   | [x, y], _ => exact comp_sub x y A c w hs
 · match l, ht with
   | [x, y], _ => exact comp_mul x y A c w hs
 · match l, ht with
   | [x, y], _ => exact comp_eq x y A c w hs
 · match l, ht with
   | [x, y], _ => exact comp_less x y A c w hs
 · match l, ht with
   | [x, y], _ => exact comp_and [x, y] A 2 c w rfl (by decide) hs
 · match l, ht with
   | [x, y], _ => exact comp_or [x, y] A 2 c w rfl (by decide) hs
 · match l, ht with
   | [x], _ => exact comp_not x A c w hs
 · match l, ht with
   | [x], _ => exact comp_null x A c w hs
 · simp only [beq_eq_false_iff_ne] at h2 h3 h4 h5 h6 h7 h8 h9 h10
   omega
def Tk (w : World) (b : Nat) (ks : List Int) : Prop := w.heap[b]? = some (.cells (ks.map (Value.int .i64)).toArray 3 (0, 0))
theorem Tk.lt {w : World} {b : Nat} {ks : List Int} (h : Tk w b ks) : b < w.heap.size := by
 rcases Nat.lt_or_ge b w.heap.size with hlt | hge
 · exact hlt
 · unfold Tk at h; rw [Array.getElem?_eq_none hge] at h; cases h
theorem Tk.after {w w' : World} {b : Nat} {ks : List Int} (h : Tk w b ks) (hb : Below w.heap.size w w') : Tk w' b ks := (hb.block b h.lt).trans h
theorem Tk.cell {w : World} {b : Nat} {ks : List Int} (h : Tk w b ks) (i : Nat) (k : Int) (hk : ks[i]? = some k) : w.cell? ⟨b, i, none⟩ = some (.int .i64 k) := by
 unfold Tk at h; simp [World.cell?, h, hk]
theorem Tk.frozen {w : World} {b : Nat} {ks : List Int} (h : Tk w b ks) (i : Nat) : w.frozen? ⟨b, i, none⟩ = false := by unfold Tk at h; simp [World.frozen?, h]
theorem Tk.set {w : World} {b : Nat} {ks : List Int} (h : Tk w b ks) (i : Nat) (k : Int) : Tk (w.setCell ⟨b, i, none⟩ (.int .i64 k)) b (ks.set i k) := by
 unfold Tk at *
 simp [World.setCell, Array.getElem?_modify, h, List.map_set]
theorem Tk.sl {w : World} {b : Nat} {ks : List Int} (h : Tk w b ks) : SlI w (some ⟨b, 0, none⟩) ks :=
 .inr ⟨b, 0, rfl, h.lt, fun i k hk => by rw [Nat.zero_add]; exact h.cell i k hk⟩
def half (vs : List Val) (k : Nat) : List Int := (vs.take k).map (·.k) ++ List.replicate (vs.length - k) 0
theorem half_zero (vs : List Val) : half vs 0 = List.replicate vs.length 0 := by simp [half]
theorem half_full (vs : List Val) (k : Nat) (h : vs.length ≤ k) : half vs k = vs.map (·.k) := by
 unfold half
 rw [List.take_of_length_le h, show vs.length - k = 0 by omega]
 simp
theorem half_len (vs : List Val) (k : Nat) (h : k ≤ vs.length) : (half vs k).length = vs.length := by simp [half]; omega
theorem half_step (vs : List Val) (k : Nat) (v : Val) (h : vs[k]? = some v) : (half vs k).set k v.k = half vs (k + 1) := by
 have hlt : k < vs.length := (List.getElem?_eq_some_iff.1 h).1
 unfold half
 have hl : ((vs.take k).map (·.k)).length = k := by simp; omega
 rw [List.set_append_right _ _ (by omega), hl, Nat.sub_self, List.take_add_one, h, show vs.length - k = (vs.length - (k + 1)) + 1 by omega, List.replicate_succ]
 simp
theorem make_few (n : Nat) (hn : n ≤ 2) (w : World) : (Instr.makeSlice 25 (.int .i64 n) (.int .i64 n)).run Tryz.prog w = .ok (.slice (some ⟨w.heap.size, 0, none⟩) n n) (w.alloc (.cells ((List.replicate n (0 : Int)).map (Value.int .i64)).toArray 3)) := by
 rcases (show n = 0 ∨ n = 1 ∨ n = 2 by omega) with rfl | rfl | rfl
 · kernel_rfl
 · kernel_rfl
 · kernel_rfl
def mtR (op : Int) (vs : List Val) : Bool := (kindR op (vs.map (·.k))).2
set_option maxHeartbeats 4000000 in
theorem mayTake_c (op : Int) (A : Option Addr) (n c : Nat) (vs : List Val) (w : World) (hn : vs.length = n) (ht : vs.length = takes op) (hs : Sl w A vs) :
 Calls Tryz.prog 96 #[.int .i64 op, .slice A n c] w fun e w' => e = .returned (.bool (mtR op vs)) ∧ Below w.heap.size w w' := by
 have h2 : n ≤ 2 := by have := takes_le op; omega
 have hmk := make_few n h2
 have Hn := Lib.hid hn
 have Hs := Lib.hid hs
 have Ht := Lib.hid ht
 obtain ⟨R, hR⟩ : ∃ R, mtR op vs = R := ⟨_, rfl⟩
 rw [hR]
 have HR := Lib.hid hR
 clear hn hs ht hR
 obtain ⟨O, hO⟩ : ∃ O : Obj, O = .cells ((List.replicate n (0 : Int)).map (Value.int .i64)).toArray 3 := ⟨_, rfl⟩
 rw [← hO] at hmk
 have HO := Lib.hid hO
 clear hO
 go_enter Tryz.func96, Tryz.ntmps96
 go_wp2_with fail
 have hT : Tk (w.alloc O) w.heap.size (half vs 0) := by
  rw [half_zero, Hn.out, HO.out]
  show (w.heap.push _)[w.heap.size]? = _
  simp
 have HT := Lib.hid hT
 have HB := Lib.hid (below_one w O)
 clear hT hmk
 generalize w.alloc O = w0 at HT HB ⊢
 go_loopw [15] (fun i wr => ∃ k : Nat, k ≤ n ∧ i = .int .i64 k ∧ Hid (Tk wr w.heap.size (half vs k)) ∧ Hid (Below w.heap.size w wr)) (fun i _ => n - (intOf i).toNat)
 case atStart => exact ⟨0, Nat.zero_le _, rfl, HT, HB⟩
 case round =>
  obtain ⟨k, hk, rfl, hT, hbr⟩ := hrel
  by_cases hlt' : k < n
  · obtain ⟨v, hv⟩ : ∃ v, vs[k]? = some v := ⟨vs[k]'(by rw [Hn.out]; exact hlt'), List.getElem?_eq_getElem _⟩
    rcases Hs.out with h0 | ⟨b, off, rfl, hlt, hc⟩
    · rw [h0] at hv; simp at hv
    obtain ⟨c0, c1, c2⟩ := hc k v hv
    have d0 := (hbr.out.cell (p := ⟨b, off + k * 3, none⟩) hlt).trans c0
    have d1 := (hbr.out.cell (p := ⟨b, off + k * 3 + 1, none⟩) hlt).trans c1
    have d2 := (hbr.out.cell (p := ⟨b, off + k * 3 + 2, none⟩) hlt).trans c2
    have Hstep := Lib.hid (half_step vs k v hv)
    obtain ⟨y, hy⟩ : ∃ y, (half vs k)[k]? = some y := ⟨(half vs k)[k]'(by rw [half_len vs k (by rw [Hn.out]; exact hk), Hn.out]; exact hlt'), List.getElem?_eq_getElem _⟩
    have t0 := hT.out.cell k y hy
    have t1 := hT.out.frozen k
    have t2 := hT.out.lt
    clear c0 c1 c2 hc hv hy
    go_wp2
    go_roundw
    case rel =>
     refine ⟨k + 1, by omega, by go_num, Lib.hid ?_, Lib.hid ?_⟩
     · rw [← Hstep.out]
       exact (hT.out.set k v.k).after (below_one _ _)
     · exact (hbr.out.setCell (p := ⟨w.heap.size, k, none⟩) (Nat.le_refl _) _).alloc (by simpa [World.setCell] using hbr.out.size) _
    case measure => simp [intOf]; omega
  · have hkn : k = n := by omega
    have hT' := hT.out
    rw [half_full vs k (by rw [Hn.out]; omega)] at hT'
    have Hk := Lib.hid (kindOf_c op (some ⟨w.heap.size, 0, none⟩) n n (vs.map (·.k)) wr (by rw [List.length_map]; exact Hn.out) (by rw [List.length_map]; exact Ht.out) hT'.sl)
    clear hT' hT
    go_wp2_with fail
    refine Hk.out.mono ?_
    rintro e w1 ⟨rfl, rfl⟩
    obtain ⟨⟨r1, r2⟩, hr⟩ : ∃ r, kindR op (vs.map (·.k)) = r := ⟨_, rfl⟩
    have hRr : r2 = R := by rw [← HR.out]; unfold mtR; rw [hr]
    rw [hr]
    clear hr
    subst hRr
    go_wp2
    go_ret
    exact ⟨rfl, hbr.out⟩
theorem enOperands : ∀ args w, (callFunc 95 args).run Tryz.prog w = .ok (.enter 95 args) w := fun _ _ => by kernel_rfl
theorem put3_heap (w : World) (c k : Nat) (a : Val) (hne : k ≠ c) : (put3 w c a).heap[k]? = w.heap[k]? := by
 simp only [put3]
 rw [Below.heap_setCell _ _ _ _ (by exact hne), Below.heap_setCell _ _ _ _ (by exact hne), Below.heap_setCell _ _ _ _ (by exact hne)]
theorem Vx.put3 {w : World} {b c : Nat} {v u : Value} (h : Vx w b v u) (hne : b ≠ c) (a : Val) : Vx (put3 w c a) b v u := (put3_heap w c b a hne).trans h
theorem Vx.alloc {w : World} {b : Nat} {v u : Value} (h : Vx w b v u) (o : Obj) : Vx (w.alloc o) b v u := h.after (below_one w o)
theorem OwnU.put3 {w : World} {B c : Nat} {v : Value} {ks : List Val} (h : OwnU w B v ks) (hne : ∀ k, v.ownBlock = some k → k ≠ c) (a : Val) : OwnU (put3 w c a) B v ks :=
 h.same fun k hk => put3_heap w c k a (hne k hk)
theorem Nx.setV {w : World} {b c : Nat} {x : Nd} {y v u : Value} (h : Nx w b x) (hk : Vx w c v u) : Nx (w.setCell ⟨c, 0, none⟩ y) b x := by
 refine h.block (Below.heap_setCell _ _ _ _ ?_)
 show b ≠ c
 rintro rfl
 unfold Nx at h
 unfold Vx at hk
 rw [hk] at h
 injection h with h
 injection h with _ ht _
 exact absurd ht (by decide)
theorem Bx.setV {w : World} {b c : Nat} {x : Val} {y v u : Value} (h : Bx w b x) (hk : Vx w c v u) : Bx (w.setCell ⟨c, 0, none⟩ y) b x := by
 refine (Below.heap_setCell _ _ _ _ ?_).trans h
 show b ≠ c
 rintro rfl
 unfold Bx at h
 unfold Vx at hk
 rw [hk] at h
 injection h with h
 injection h with _ ht _
 exact absurd ht (by decide)
theorem pop_detW (n : Nat) (v : Value) (ks : List Val) (w0 : World) (B0 : Nat) (ho0 : OwnU w0 B0 v ks) (hn : n ≤ 2) (hl : n ≤ ks.length) (hmax : ks.length ≤ 1000) :
 ∃ A c v', v'.ownBlock = v.ownBlock ∧ ∀ (b : Nat) (u : Value) (B : Nat) (w : World), Vx w b v u → OwnU w B v ks → Calls Tryz.prog 94 #[.pointer (some ⟨b, 0, none⟩), .int .i64 n] w (PopPostV b n ks B A c v' w) := by
 rcases ho0.shape with ⟨rfl, rfl⟩ | ⟨g, c, rfl, hle, _, _⟩
 · obtain rfl : n = 0 := by simpa using hl
   exact ⟨none, 0, _, rfl, fun b u B w hk _ => pop_nilV b u B w hk⟩
 · have hcc : ks.length - n ≤ c := by omega
   rcases Nat.eq_or_lt_of_le hcc with hc1 | hc1
   · exact ⟨some ⟨g, 0, none⟩, 0, .slice (some ⟨g, 0, none⟩) c c, rfl, fun b u B w hk ho => pop_fullV b n g c _ u ks B w hk ho rfl hn hl hmax hle hc1⟩
   · exact ⟨some ⟨g, (ks.length - n) * 3, none⟩, c - (ks.length - n), .slice (some ⟨g, 0, none⟩) (ks.length - n) c, rfl, fun b u B w hk ho => pop_moreV b n g c _ u ks B w hk ho rfl hn hl hmax hle hc1⟩
def opR (op : Int) (ts : List Val) : Val × Int := if mtR op ts then (if (cmpR op ts).2 then ((cmpR op ts).1, 0) else (nl, 31)) else (nl, 30)
def lvV (row ks : List Val) (x : Nd) : Val × Int × List Val :=
 if x.op == 0 then ((vcolR row x.n).1, (vcolR row x.n).2, ks) else if x.op == 1 then ((conR x.v).1, (conR x.v).2, ks)
 else if ks.length < takes x.op then (nl, 30, ks) else ((opR x.op (ks.drop (ks.length - takes x.op))).1, (opR x.op (ks.drop (ks.length - takes x.op))).2, ks.take (ks.length - takes x.op))
def VlPost (b : Nat) (u : Value) (B : Nat) (r : Val × Int × List Val) (w : World) (e : Ending) (w' : World) : Prop :=
 e = .returned (.tuple #[r.1.v, .int .i64 r.2.1]) ∧ Below B w w' ∧ ∃ v', Vx w' b v' u ∧ OwnU w' B v' r.2.2
theorem enPopV : ∀ args w, (callFunc 94 args).run Tryz.prog w = .ok (.enter 94 args) w := fun _ _ => by kernel_rfl
theorem enPushV : ∀ args w, (callFunc 72 args).run Tryz.prog w = .ok (.enter 72 args) w := fun _ _ => by kernel_rfl
theorem fa_vals0 (w : World) (b : Nat) : (Instr.fieldAt 94 (.pointer (some ⟨b, 0, none⟩)) 0).run Tryz.prog w = .ok (.pointer (some ⟨b, 0, none⟩)) w := by go_simp
theorem vl_end {b B : Nat} {u v' : Value} {rest : List Val} {w w1 : World} {r : Val} {er : Int} (hB : B ≤ b) (hlt : b < w.heap.size) (hb : Below B w w1) (br : Bx w1 (w.heap.size + 1) nl) (k : Vx w1 b v' u) (o : OwnU w1 B v' rest) (hv : ∀ k, v'.ownBlock = some k → k < w.heap.size) :
 VlPost b u B (r, er, rest) w (.returned (.tuple #[r.v, .int .i64 er])) (put3 w1 (w.heap.size + 1) r) ∧ Bx (put3 w1 (w.heap.size + 1) r) (w.heap.size + 1) r :=
 ⟨⟨rfl, put3_below hb (by omega) r, v', k.put3 (by omega) r, o.put3 (fun k hk => by have := hv k hk; omega) r⟩, br.put r⟩
theorem VlPost.alloc {b B : Nat} {u : Value} {r : Val × Int × List Val} {w w' : World} {e : Ending} (h : VlPost b u B r w e w') (hB : B ≤ w'.heap.size) (o : Obj) : VlPost b u B r w e (w'.alloc o) := by
 obtain ⟨h1, h2, v', k, ow⟩ := h
 exact ⟨h1, h2.alloc hB o, v', k.alloc o, ow.alloc o⟩
set_option maxHeartbeats 1000000 in
theorem vleaves_col (b B : Nat) (x : Nd) (v : Value) (A : Option Addr) (m c : Nat) (row ks : List Val) (w : World) (hk : Vx w b v (.slice A m c)) (ho : OwnU w B v ks) (hB : B ≤ b) (hl : row.length = m) (hs : Sl w A row) (hop : (x.op == 0) = true) :
 Calls Tryz.prog 71 #[.pointer (some ⟨b, 0, none⟩), x.w] w (VlPost b (.slice A m c) B ((vcolR row x.n).1, (vcolR row x.n).2, ks) w) := by
 have hlt := hk.lt
 have Hk := Lib.hid hk
 have Ho := Lib.hid ho
 have Hs := Lib.hid hs
 have Hl := Lib.hid hl
 clear hk ho hs hl
 obtain ⟨r1, r2, hr⟩ : ∃ r1 r2, vcolR row x.n = (r1, r2) := ⟨_, _, rfl⟩
 rw [hr]
 have Hr := Lib.hid hr
 clear hr
 go_enter Tryz.func71, Tryz.ntmps71
 go_wp2_with fail
 refine (vcol_c b x.n m c A row v _ ((Hk.out.alloc _).alloc _) Hl.out ((Hs.out.alloc _).alloc _)).mono ?_
 rintro e w1 ⟨rfl, hb1⟩
 rw [Hr.out]
 have br : Bx w1 (w.heap.size + 1) nl := (Bx.new1 w nl _).after hb1
 have hb : Below w.heap.size w w1 := (below_two _ _ _).trans (hb1.mono (by simp; omega))
 have g0 := br.cell0
 have g1 := br.cell1
 have g2 := br.cell2
 have f0 := br.frozen 0
 have f1 := br.frozen 1
 have f2 := br.frozen 2
 have He := Lib.hid (vl_end (r := r1) (er := r2) hB hlt (hb.mono (by omega)) br (Hk.out.after hb) (Ho.out.after hb) (fun k hk => (Ho.out.lt k hk).2))
 clear hb1 hb
 go_wp2
 exact ret_valX (a := r1) (z := .int .i64 r2) Tryz.results71 rfl rfl He.out.2 rfl He.out.1
set_option maxHeartbeats 1000000 in
theorem vleaves_const (b B : Nat) (x : Nd) (v u : Value) (ks : List Val) (w : World) (hk : Vx w b v u) (ho : OwnU w B v ks) (hB : B ≤ b) (hz : x.v.s.size ≤ maxLen) (h0 : (x.op == 0) = false) (hop : (x.op == 1) = true) :
 Calls Tryz.prog 71 #[.pointer (some ⟨b, 0, none⟩), x.w] w (VlPost b u B ((conR x.v).1, (conR x.v).2, ks) w) := by
 have hlt := hk.lt
 have Hk := Lib.hid hk
 have Ho := Lib.hid ho
 have Hz := Lib.hid hz
 clear hk ho hz
 obtain ⟨r1, r2, hr⟩ : ∃ r1 r2, conR x.v = (r1, r2) := ⟨_, _, rfl⟩
 rw [hr]
 have Hr := Lib.hid hr
 clear hr
 go_enter Tryz.func71, Tryz.ntmps71
 go_wp2_with fail
 refine (constant_c x.v _ Hz.out).mono ?_
 rintro e w1 ⟨rfl, hb1⟩
 rw [Hr.out]
 have br : Bx w1 (w.heap.size + 1) nl := (Bx.new1 w nl _).after hb1
 have hb : Below w.heap.size w w1 := (below_two _ _ _).trans (hb1.mono (by simp; omega))
 have g0 := br.cell0
 have g1 := br.cell1
 have g2 := br.cell2
 have f0 := br.frozen 0
 have f1 := br.frozen 1
 have f2 := br.frozen 2
 have He := Lib.hid (vl_end (r := r1) (er := r2) hB hlt (hb.mono (by omega)) br (Hk.out.after hb) (Ho.out.after hb) (fun k hk => (Ho.out.lt k hk).2))
 clear hb1 hb
 go_wp2
 exact ret_valX (a := r1) (z := .int .i64 r2) Tryz.results71 rfl rfl He.out.2 rfl He.out.1
set_option maxHeartbeats 1000000 in
theorem vleaves_few (b B : Nat) (x : Nd) (v u : Value) (ks : List Val) (w : World) (hk : Vx w b v u) (ho : OwnU w B v ks) (hB : B ≤ b) (h0 : (x.op == 0) = false) (h1 : (x.op == 1) = false) (hl : ks.length < takes x.op) :
 Calls Tryz.prog 71 #[.pointer (some ⟨b, 0, none⟩), x.w] w (VlPost b u B (nl, 30, ks) w) := by
 have hlt := hk.lt
 have Hk := Lib.hid hk
 have Ho := Lib.hid ho
 have Hl := Lib.hid hl
 clear hk ho hl
 obtain ⟨T, hT⟩ : ∃ T, takes x.op = T := ⟨_, rfl⟩
 have HT := Lib.hid hT
 clear hT
 go_enter Tryz.func71, Tryz.ntmps71
 go_wp2_with fail
 have hn0 : Nx ((w.alloc (.cells x.cells 48)).alloc (.cells #[.int .i64 nl.k, .int .i64 nl.n, .string nl.s] 46)) w.heap.size x := (Nx.new w x).after (below_one _ _)
 refine Reg.wp_region_vals mixed (by kernel_rfl) [(27, .pointer (some ⟨b, 0, none⟩)), (28, .pointer (some ⟨b, 0, none⟩)), (29, .pointer (some ⟨b, 0, none⟩)), (30, .pointer (some ⟨w.heap.size, 0, none⟩)), (31, .int .i64 x.op), (32, .int .i64 T), (33, .tuple #[.slice none 0 0, .bool false]), (26, .tuple #[.slice none 0 0, .bool false]), (34, .slice none 0 0), (35, .bool false), (6, .slice none 0 0), (7, .bool false)] 57 rfl (by kernel_rfl) ?_ ?_
 · intro F hF w' hB'
   have hn : Nx w' w.heap.size x := hn0.after hB'
   have hk' : Vx w' b v u := ((Hk.out.alloc _).alloc _).after hB'
   have ho' : OwnU w' B v ks := ((Ho.out.alloc _).alloc _).after hB'
   refine ⟨?_, ?_, ?_, ?_, ?_, ?_, ?_, ?_, ?_, ?_, ?_, ?_, trivial⟩
   · exact Reg.doesV_val (ev_move rfl) (by rw [hF]; kernel_rfl) (by rw [hF]; kernel_rfl)
   · exact Reg.doesV_val (ev_nc (a := ⟨b, 0, none⟩) rfl (by rw [hF]; kernel_rfl)) (by rw [hF]; kernel_rfl) (by rw [hF]; kernel_rfl)
   · exact Reg.doesV_val (ev_fa rfl (by rw [hF]; kernel_rfl) (fa_vals0 w' b)) (by rw [hF]; kernel_rfl) (by rw [hF]; kernel_rfl)
   · exact Reg.doesV_val (ev_fa rfl (by rw [hF]; kernel_rfl) (fa_node0 w' w.heap.size)) (by rw [hF]; kernel_rfl) (by rw [hF]; kernel_rfl)
   · exact Reg.doesV_val (ev_ld rfl (by rw [hF]; kernel_rfl) hn.ldO) (by rw [hF]; kernel_rfl) (by rw [hF]; kernel_rfl)
   · exact Reg.doesV_call (by have h := operands_c x.op w'; rw [HT.out] at h; exact h.mono (fun e w2 hh => ⟨hh.1, hh.2 ▸ Below.refl _ _⟩)) (ev_call enOperands rfl (by rw [hF]; kernel_rfl)) (by rw [hF]; kernel_rfl) (by rw [hF]; kernel_rfl)
   · exact Reg.doesV_call ((pop_fewV b T v u ks B w' hk' ho' (by rw [← HT.out]; exact takes_le _) (by rw [← HT.out]; exact Hl.out)).mono (fun e w2 hh => ⟨hh.1, hh.2 ▸ Below.refl _ _⟩)) (ev_call enPopV rfl (by rw [hF]; kernel_rfl)) (by rw [hF]; kernel_rfl) (by rw [hF]; kernel_rfl)
   · exact Reg.doesV_val (ev_move rfl) (by rw [hF]; kernel_rfl) (by rw [hF]; kernel_rfl)
   · exact Reg.doesV_val (ev_extract (vs := #[.slice none 0 0, .bool false]) rfl (by rw [hF]; kernel_rfl) rfl) (by rw [hF]; kernel_rfl) (by rw [hF]; kernel_rfl)
   · exact Reg.doesV_val (ev_extract (vs := #[.slice none 0 0, .bool false]) rfl (by rw [hF]; kernel_rfl) rfl) (by rw [hF]; kernel_rfl) (by rw [hF]; kernel_rfl)
   · exact Reg.doesV_val (ev_assign rfl) (by rw [hF]; kernel_rfl) (by rw [hF]; kernel_rfl)
   · exact Reg.doesV_val (ev_assign rfl) (by rw [hF]; kernel_rfl) (by rw [hF]; kernel_rfl)
 · intro w1 hB'
   simp only [Reg.putAll, Act.put, List.setIfInBounds_toArray, List.set_cons_zero, List.set_cons_succ]
   have br : Bx w1 (w.heap.size + 1) nl := (Bx.new1 w nl _).below hB' (by simp)
   have hb : Below w.heap.size w w1 := (below_two _ _ _).trans (hB'.mono (by simp; omega))
   have g0 := br.cell0
   have g1 := br.cell1
   have g2 := br.cell2
   have f0 := br.frozen 0
   have f1 := br.frozen 1
   have f2 := br.frozen 2
   have He := Lib.hid (vl_end (r := nl) (er := 30) hB hlt (hb.mono (by omega)) br (Hk.out.after hb) (Ho.out.after hb) (fun k hk => (Ho.out.lt k hk).2))
   clear hB' hb
   go_wp2
   exact ret_valX (a := nl) (z := .int .i64 30) Tryz.results71 rfl rfl He.out.2 rfl He.out.1
structure VlJ (b B : Nat) (x : Nd) (v u v' : Value) (ks rest ts : List Val) (A : Option Addr) (w0 : World) (ph : Bool) (w : World) : Prop where
 below : Below B w0 w
 size : w0.heap.size + 2 ≤ w.heap.size
 nx : Nx w w0.heap.size x
 bx : Bx w (w0.heap.size + 1) nl
 one : ph = false → Vx w b v u ∧ OwnU w B v ks
 two : ph = true → Vx w b v' u ∧ OwnU w B v' rest ∧ Sl w A ts
theorem VlJ.after {b B : Nat} {x : Nd} {v u v' : Value} {ks rest ts : List Val} {A : Option Addr} {w0 : World} {ph : Bool} {w w' : World} (h : VlJ b B x v u v' ks rest ts A w0 ph w) (hB : B ≤ w.heap.size) (hb : Below w.heap.size w w') : VlJ b B x v u v' ks rest ts A w0 ph w' :=
 ⟨h.below.trans (hb.mono hB), Nat.le_trans h.size hb.size, h.nx.after hb, h.bx.after hb, fun e => ⟨(h.one e).1.after hb, (h.one e).2.after hb⟩, fun e => ⟨(h.two e).1.after hb, (h.two e).2.1.after hb, (h.two e).2.2.after hb⟩⟩
set_option maxHeartbeats 4000000 in
theorem vleaves_op (b B : Nat) (x : Nd) (v u : Value) (ks : List Val) (w : World) (hk : Vx w b v u) (ho : OwnU w B v ks) (hB : B ≤ b) (hmax : ks.length ≤ 1000) (h0 : (x.op == 0) = false) (h1 : (x.op == 1) = false) (hl : takes x.op ≤ ks.length) :
 Calls Tryz.prog 71 #[.pointer (some ⟨b, 0, none⟩), x.w] w (VlPost b u B ((opR x.op (ks.drop (ks.length - takes x.op))).1, (opR x.op (ks.drop (ks.length - takes x.op))).2, ks.take (ks.length - takes x.op)) w) := by
 have hlt := hk.lt
 have Hk := Lib.hid hk
 have Ho := Lib.hid ho
 obtain ⟨T, hT⟩ : ∃ T, takes x.op = T := ⟨_, rfl⟩
 have hT2 : T ≤ 2 := by rw [← hT]; exact takes_le _
 rw [hT] at hl ⊢
 obtain ⟨A, c, v', hvb, hpop⟩ := pop_detW T v ks w B ho hT2 hl hmax
 obtain ⟨ts, hts⟩ : ∃ ts, ks.drop (ks.length - T) = ts := ⟨_, rfl⟩
 obtain ⟨rest, hrest⟩ : ∃ rest, ks.take (ks.length - T) = rest := ⟨_, rfl⟩
 have hlen : ts.length = T := by rw [← hts, List.length_drop]; omega
 obtain ⟨M, hM⟩ : ∃ M, mtR x.op ts = M := ⟨_, rfl⟩
 obtain ⟨C1, C2, hC⟩ : ∃ C1 C2, cmpR x.op ts = (C1, C2) := ⟨_, _, rfl⟩
 rw [hts, hrest]
 have hE : opR x.op ts = if M then (if C2 then (C1, 0) else (nl, 31)) else (nl, 30) := by unfold opR; rw [hM, hC]
 obtain ⟨⟨r1, r2⟩, hR⟩ : ∃ R, opR x.op ts = R := ⟨_, rfl⟩
 rw [hR] at hE ⊢
 have HE := Lib.hid hE
 clear hR
 have hops : M = true → 2 ≤ x.op ∧ x.op ≤ 10 := by
  intro hMt
  rw [← hM] at hMt
  unfold mtR at hMt
  rcases ops_cases x.op with e | e | e | e | e | e | e | e | e | ⟨h2, h3, h4, h5, h6, h7, h8, h9, h10⟩
  all_goals first
   | (rw [e]; decide)
   | (simp [kindR, h2, h3, h4, h5, h6, h7, h8, h9, h10] at hMt)
 have HT := Lib.hid hT
 have Hpop := Lib.hid hpop
 have Hts := Lib.hid hts
 have Hrest := Lib.hid hrest
 have HM := Lib.hid hM
 have HC := Lib.hid hC
 have Hlen := Lib.hid hlen
 have Hops := Lib.hid hops
 have Hv := Lib.hid (show ∀ k, v'.ownBlock = some k → k < w.heap.size from fun k hk => (ho.lt k (by rw [← hvb]; exact hk)).2)
 clear hk ho hT hpop hts hrest hM hC hlen hl hmax hT2 hE hops hvb
 go_enter Tryz.func71, Tryz.ntmps71
 go_wp2_with fail
 have hn0 : Nx ((w.alloc (.cells x.cells 48)).alloc (.cells #[.int .i64 nl.k, .int .i64 nl.n, .string nl.s] 46)) w.heap.size x := (Nx.new w x).after (below_one _ _)
 have hbb : Below B w ((w.alloc (.cells x.cells 48)).alloc (.cells #[.int .i64 nl.k, .int .i64 nl.n, .string nl.s] 46)) := (below_two _ _ _).mono (by omega)
 refine RegT.wp_region_two mixed (by kernel_rfl) (VlJ b B x v u v' ks rest ts A w) 6 (of_decide_eq_true (by kernel_rfl)) ⟨⟨hbb.os, hbb.tape, hbb.output, hbb.size, hbb.block⟩, by show _ ≤ ((w.heap.push _).push _).size; simp, hn0, Bx.new1 w nl _, fun _ => ⟨(Hk.out.alloc _).alloc _, (Ho.out.alloc _).alloc _⟩, fun e => by cases e⟩
  [(27, .pointer (some ⟨b, 0, none⟩)), (28, .pointer (some ⟨b, 0, none⟩)), (29, .pointer (some ⟨b, 0, none⟩)), (30, .pointer (some ⟨w.heap.size, 0, none⟩)), (31, .int .i64 x.op), (32, .int .i64 T), (33, .tuple #[.slice A T c, .bool true]), (26, .tuple #[.slice A T c, .bool true]), (34, .slice A T c), (35, .bool true), (6, .slice A T c), (7, .bool true)] 57 rfl (by kernel_rfl) ?_ ?_
 · intro F hF w' ph hJ
   have hn := hJ.nx
   have hsz : B ≤ w'.heap.size := by have := hJ.below.size; omega
   refine ⟨fun _ => ?_, fun _ => ?_, fun _ => ?_, fun _ => ?_, fun _ => ?_, fun _ => ?_, fun hph => ?_, fun _ => ?_, fun _ => ?_, fun _ => ?_, fun _ => ?_, fun _ => ?_, trivial⟩
   · exact RegT.doesT_val (by decide) hJ (ev_move rfl) (by rw [hF]; kernel_rfl) (by rw [hF]; kernel_rfl)
   · exact RegT.doesT_val (by decide) hJ (ev_nc (a := ⟨b, 0, none⟩) rfl (by rw [hF]; kernel_rfl)) (by rw [hF]; kernel_rfl) (by rw [hF]; kernel_rfl)
   · exact RegT.doesT_val (by decide) hJ (ev_fa rfl (by rw [hF]; kernel_rfl) (fa_vals0 w' b)) (by rw [hF]; kernel_rfl) (by rw [hF]; kernel_rfl)
   · exact RegT.doesT_val (by decide) hJ (ev_fa rfl (by rw [hF]; kernel_rfl) (fa_node0 w' w.heap.size)) (by rw [hF]; kernel_rfl) (by rw [hF]; kernel_rfl)
   · exact RegT.doesT_val (by decide) hJ (ev_ld rfl (by rw [hF]; kernel_rfl) hn.ldO) (by rw [hF]; kernel_rfl) (by rw [hF]; kernel_rfl)
   · exact RegT.doesT_call (by decide) (fun w'' hb => hJ.after hsz hb) (by have h := operands_c x.op w'; rw [HT.out] at h; exact h.mono (fun e w2 hh => ⟨hh.1, hh.2 ▸ Below.refl _ _⟩)) (ev_call enOperands rfl (by rw [hF]; kernel_rfl)) (by rw [hF]; kernel_rfl) (by rw [hF]; kernel_rfl)
   · obtain ⟨k', o'⟩ := hJ.one (hph rfl)
     refine RegT.doesT_main (v := .tuple #[.slice A T c, .bool true]) ((Hpop.out b u B w' k' o').mono ?_) (ev_call enPopV rfl (by rw [hF]; kernel_rfl)) (by rw [hF]; kernel_rfl) (by rw [hF]; kernel_rfl)
     rintro e w2 ⟨he, rfl, p1, p2, p3⟩
     rw [Hrest.out] at p1
     rw [Hts.out] at p2
     exact ⟨he, hJ.below.setCell hB _, by have := hJ.size; simpa [World.setCell] using this, hn.setV k', hJ.bx.setV k', (fun e => by cases e), fun _ => ⟨k'.set v', p1.set k', p2.set p3⟩⟩
   · exact RegT.doesT_val (by decide) hJ (ev_move rfl) (by rw [hF]; kernel_rfl) (by rw [hF]; kernel_rfl)
   · exact RegT.doesT_val (by decide) hJ (ev_extract (vs := #[.slice A T c, .bool true]) rfl (by rw [hF]; kernel_rfl) rfl) (by rw [hF]; kernel_rfl) (by rw [hF]; kernel_rfl)
   · exact RegT.doesT_val (by decide) hJ (ev_extract (vs := #[.slice A T c, .bool true]) rfl (by rw [hF]; kernel_rfl) rfl) (by rw [hF]; kernel_rfl) (by rw [hF]; kernel_rfl)
   · exact RegT.doesT_val (by decide) hJ (ev_assign rfl) (by rw [hF]; kernel_rfl) (by rw [hF]; kernel_rfl)
   · exact RegT.doesT_val (by decide) hJ (ev_assign rfl) (by rw [hF]; kernel_rfl) (by rw [hF]; kernel_rfl)
 · intro w' hJ
   simp only [Reg.putAll, Act.put, List.setIfInBounds_toArray, List.set_cons_zero, List.set_cons_succ]
   obtain ⟨k', o', s'⟩ := hJ.two rfl
   have n0 := hJ.nx.cell0
   have nl0 := hJ.nx.lt
   have HJ := Lib.hid hJ
   clear hJ k' o' s'
   go_wp2_with fail
   refine (mayTake_c x.op A T c ts w' Hlen.out (Hlen.out.trans HT.out.symm) (HJ.out.two rfl).2.2).mono ?_
   rintro e w1 ⟨rfl, hb1⟩
   rw [HM.out]
   have J1 : VlJ b B x v u v' ks rest ts A w true w1 := HJ.out.after (by have := HJ.out.size; omega) hb1
   clear hb1 HJ n0 nl0
   cases M
   · obtain ⟨rfl, rfl⟩ : r1 = nl ∧ r2 = 30 := by have := HE.out; simpa using this
     have br := J1.bx
     have g0 := br.cell0
     have g1 := br.cell1
     have g2 := br.cell2
     have f0 := br.frozen 0
     have f1 := br.frozen 1
     have f2 := br.frozen 2
     have He := Lib.hid (vl_end (r := nl) (er := 30) hB hlt J1.below br (J1.two rfl).1 (J1.two rfl).2.1 Hv.out)
     clear J1
     go_wp2
     exact ret_valX (a := nl) (z := .int .i64 30) Tryz.results71 rfl rfl He.out.2 rfl He.out.1
   · have n0 := J1.nx.cell0
     have nl0 := J1.nx.lt
     have HJ1 := Lib.hid J1
     clear J1
     go_wp2_with fail
     refine (comp_c x.op ts A T c w1 (Hops.out (by trivial)) Hlen.out (Hlen.out.trans HT.out.symm) (HJ1.out.two rfl).2.2).mono ?_
     rintro e w2 ⟨rfl, hb2⟩
     rw [HC.out]
     have J2 : VlJ b B x v u v' ks rest ts A w true w2 := HJ1.out.after (by have := HJ1.out.size; omega) hb2
     have l2 := J2.bx.lt
     have g0 := J2.bx.cell0
     have g1 := J2.bx.cell1
     have g2 := J2.bx.cell2
     have f0 := J2.bx.frozen 0
     have f1 := J2.bx.frozen 1
     have f2 := J2.bx.frozen 2
     have hsz : B ≤ w2.heap.size := by have := J2.size; omega
     clear hb2 HJ1 n0 nl0
     cases C2
     · obtain ⟨rfl, rfl⟩ : r1 = nl ∧ r2 = 31 := by have := HE.out; simpa using this
       have He := Lib.hid (vl_end (r := nl) (er := 31) hB hlt J2.below J2.bx (J2.two rfl).1 (J2.two rfl).2.1 Hv.out)
       clear J2
       go_wp2
       exact ret_valX (a := nl) (z := .int .i64 31) Tryz.results71 rfl rfl (He.out.2.alloc _) rfl (He.out.1.alloc (by rw [put3_size]; exact hsz) _)
     · obtain ⟨rfl, rfl⟩ : r1 = C1 ∧ r2 = 0 := by have := HE.out; simpa using this
       have He := Lib.hid (vl_end (r := r1) (er := 0) hB hlt J2.below J2.bx (J2.two rfl).1 (J2.two rfl).2.1 Hv.out)
       clear J2
       go_wp2
       exact ret_valX (a := r1) (z := .int .i64 0) Tryz.results71 rfl rfl (He.out.2.alloc _) rfl (He.out.1.alloc (by rw [put3_size]; exact hsz) _)
theorem vleaves_c (b B : Nat) (x : Nd) (v : Value) (A : Option Addr) (m c : Nat) (row ks : List Val) (w : World) (hk : Vx w b v (.slice A m c)) (ho : OwnU w B v ks) (hB : B ≤ b) (hl : row.length = m) (hs : Sl w A row) (hmax : ks.length ≤ 1000) (hz : x.v.s.size ≤ maxLen) :
 Calls Tryz.prog 71 #[.pointer (some ⟨b, 0, none⟩), x.w] w (VlPost b (.slice A m c) B (lvV row ks x) w) := by
 unfold lvV
 cases h0 : x.op == 0
 · cases h1 : x.op == 1
   · rw [if_neg Bool.false_ne_true, if_neg Bool.false_ne_true]
     by_cases hf : ks.length < takes x.op
     · rw [if_pos hf]
       exact vleaves_few b B x v _ ks w hk ho hB h0 h1 hf
     · rw [if_neg hf]
       exact vleaves_op b B x v _ ks w hk ho hB hmax h0 h1 (by omega)
   · rw [if_neg Bool.false_ne_true, if_pos rfl]
     exact vleaves_const b B x v _ ks w hk ho hB hz h0 h1
 · rw [if_pos rfl]
   exact vleaves_col b B x v A m c row ks w hk ho hB hl hs h0
def stepV (row ks : List Val) (x : Nd) : Sum Int (List Val) := if (lvV row ks x).2.1 == 0 then .inr ((lvV row ks x).2.2 ++ [(lvV row ks x).1]) else .inl (lvV row ks x).2.1
theorem lvV_len (row ks : List Val) (x : Nd) : (lvV row ks x).2.2.length ≤ ks.length := by
 unfold lvV
 split
 · exact Nat.le_refl _
 · split
   · exact Nat.le_refl _
   · split
     · exact Nat.le_refl _
     · simp
theorem stepV_len {row ks r : List Val} {x : Nd} (h : stepV row ks x = .inr r) : r.length ≤ ks.length + 1 := by
 unfold stepV at h
 split at h
 · cases h
   have := lvV_len row ks x
   simp; omega
 · cases h
def SvPost (b : Nat) (u : Value) (B : Nat) (r : Sum Int (List Val)) (w : World) (e : Ending) (w' : World) : Prop :=
 Below B w w' ∧ match r with
  | .inl er => e = .returned (.int .i64 er) ∧ (er != 0) = true
  | .inr ks => e = .returned (.int .i64 0) ∧ ∃ v', Vx w' b v' u ∧ OwnU w' B v' ks
structure PuJ (b B g : Nat) (x : Val) (u : Value) (rest ks : List Val) (v : Value) (w0 : World) (ph : Bool) (w : World) : Prop where
 below : Below B w0 w
 size : g < w.heap.size
 bx : Bx w g x
 one : ph = false → Vx w b v u ∧ OwnU w B v rest
 two : ph = true → ∃ v', Vx w b v' u ∧ OwnU w B v' ks
set_option maxHeartbeats 4000000 in
theorem vstep_c (b B : Nat) (x : Nd) (v : Value) (A : Option Addr) (m c : Nat) (row ks : List Val) (w : World) (hk : Vx w b v (.slice A m c)) (ho : OwnU w B v ks) (hB : B ≤ b) (hl : row.length = m) (hs : Sl w A row) (hmax : ks.length ≤ 900) (hz : x.v.s.size ≤ maxLen) :
 Calls Tryz.prog 61 #[.pointer (some ⟨b, 0, none⟩), x.w] w (SvPost b (.slice A m c) B (stepV row ks x) w) := by
 have hlt := hk.lt
 have Hlen := Lib.hid (lvV_len row ks x)
 have Hlv := Lib.hid (fun (w1 : World) (k1 : Vx w1 b v (.slice A m c)) (o1 : OwnU w1 B v ks) (s1 : Sl w1 A row) => vleaves_c b B x v A m c row ks w1 k1 o1 hB hl s1 (by omega) hz)
 unfold stepV
 obtain ⟨⟨lv, er, rest⟩, hr⟩ : ∃ r, lvV row ks x = r := ⟨_, rfl⟩
 rw [hr] at Hlen Hlv ⊢
 obtain ⟨R, hR⟩ : ∃ R : Sum Int (List Val), (if (er == 0) = true then .inr (rest ++ [lv]) else .inl er) = R := ⟨_, rfl⟩
 have HR := Lib.hid hR
 show Calls _ _ _ _ (SvPost b (.slice A m c) B (if (er == 0) = true then .inr (rest ++ [lv]) else .inl er) w)
 rw [hR]
 clear hR
 have Hk := Lib.hid hk
 have Ho := Lib.hid ho
 have Hs := Lib.hid hs
 clear hk ho hs hr hl hz
 go_enter Tryz.func61, Tryz.ntmps61
 go_wp2_with fail
 refine (Hlv.out _ (Hk.out.alloc _) (Ho.out.alloc _) (Hs.out.alloc _)).mono ?_
 rintro e w1 ⟨rfl, hb1, v1, k1, o1⟩
 have hbw : Below B w w1 := ((Below.refl B w).alloc (by omega) _).trans hb1
 have hs1 : B ≤ w1.heap.size := by have := hbw.size; omega
 have l1 := k1.lt
 have Hbw := Lib.hid (hbw.alloc hs1 (.cells #[.int .i64 lv.k, .int .i64 lv.n, .string lv.s] 46))
 have Hk1 := Lib.hid (k1.alloc (.cells #[.int .i64 lv.k, .int .i64 lv.n, .string lv.s] 46))
 have Ho1 := Lib.hid (o1.alloc (.cells #[.int .i64 lv.k, .int .i64 lv.n, .string lv.s] 46))
 have Hown := Lib.hid (show ∀ k, v1.ownBlock = some k → k < w1.heap.size from fun k hk => (o1.lt k hk).2)
 clear hb1 hbw k1 o1
 cases hz : er == 0
 · obtain rfl : Sum.inl er = R := by have := HR.out; rw [hz] at this; simpa using this
   have hz' : (er != 0) = true := by rw [bne, hz]; rfl
   go_wp2
   go_ret
   exact ⟨Hbw.out, rfl, hz'⟩
 · obtain rfl : Sum.inr (rest ++ [lv]) = R := by have := HR.out; rw [hz] at this; simpa using this
   obtain rfl : er = 0 := by simpa using hz
   clear hz
   go_wp2_with fail
   refine RegT.wp_region_two mixed (by kernel_rfl) (PuJ b B w1.heap.size lv (.slice A m c) rest (rest ++ [lv]) v1 w) 4 (of_decide_eq_true (by kernel_rfl)) ⟨⟨Hbw.out.os, Hbw.out.tape, Hbw.out.output, Hbw.out.size, Hbw.out.block⟩, by show _ < (w1.heap.push _).size; simp, Bx.new w1 lv, fun _ => ⟨Hk1.out, Ho1.out⟩, fun e => by cases e⟩
    [(15, .pointer (some ⟨b, 0, none⟩)), (16, .pointer (some ⟨b, 0, none⟩)), (17, .pointer (some ⟨b, 0, none⟩)), (18, lv.v), (19, .tuple #[])] 21 rfl (by kernel_rfl) ?_ ?_
   · intro F hF w' ph hJ
     refine ⟨fun _ => ?_, fun _ => ?_, fun _ => ?_, fun _ => ?_, fun hph => ?_, trivial⟩
     · exact RegT.doesT_val (by decide) hJ (ev_move rfl) (by rw [hF]; kernel_rfl) (by rw [hF]; kernel_rfl)
     · exact RegT.doesT_val (by decide) hJ (ev_nc (a := ⟨b, 0, none⟩) rfl (by rw [hF]; kernel_rfl)) (by rw [hF]; kernel_rfl) (by rw [hF]; kernel_rfl)
     · exact RegT.doesT_val (by decide) hJ (ev_fa rfl (by rw [hF]; kernel_rfl) (fa_vals0 w' b)) (by rw [hF]; kernel_rfl) (by rw [hF]; kernel_rfl)
     · exact RegT.doesT_val (by decide) hJ (ev_load hJ.bx rfl (by rw [hF]; kernel_rfl)) (by rw [hF]; kernel_rfl) (by rw [hF]; kernel_rfl)
     · obtain ⟨k', o'⟩ := hJ.one (hph rfl)
       refine RegT.doesT_main (v := .tuple #[]) ((push_cV b lv v1 _ rest B w' k' o' hB (by have : rest.length ≤ ks.length := Hlen.out; omega)).mono ?_) (ev_call enPushV rfl (by rw [hF]; kernel_rfl)) (by rw [hF]; kernel_rfl) (by rw [hF]; kernel_rfl)
       rintro e w2 ⟨he, hb2, hsm, v2, k2, o2⟩
       exact ⟨he, hJ.below.trans hb2, Nat.lt_of_lt_of_le hJ.size hb2.size, (hsm _ hJ.size (by omega) (fun e => by have := Hown.out _ e; omega)).trans hJ.bx, (fun e => by cases e), fun _ => ⟨v2, k2, o2⟩⟩
   · intro w' hJ
     simp only [Reg.putAll, Act.put, List.setIfInBounds_toArray, List.set_cons_zero, List.set_cons_succ]
     have HJ := Lib.hid hJ
     clear hJ
     go_wp2
     go_ret
     exact ⟨HJ.out.below, rfl, HJ.out.two rfl⟩
def SlN (w : World) (A : Option Addr) (e : List Nd) : Prop :=
 e = [] ∨ ∃ b off, A = some ⟨b, off, none⟩ ∧ b < w.heap.size ∧ ∀ i (x : Nd), e[i]? = some x →
  w.cell? ⟨b, off + i * 5, none⟩ = some (.int .i64 x.op) ∧ w.cell? ⟨b, off + i * 5 + 1, none⟩ = some (.int .i64 x.n) ∧ w.cell? ⟨b, off + i * 5 + 2, none⟩ = some (.int .i64 x.v.k) ∧ w.cell? ⟨b, off + i * 5 + 3, none⟩ = some (.int .i64 x.v.n) ∧ w.cell? ⟨b, off + i * 5 + 4, none⟩ = some (.string x.v.s)
theorem SlN.after {w w' : World} {A : Option Addr} {e : List Nd} (h : SlN w A e) (hb : Below w.heap.size w w') : SlN w' A e := by
 rcases h with h | ⟨b, off, hA, hlt, h⟩
 · exact .inl h
 · refine .inr ⟨b, off, hA, Nat.lt_of_lt_of_le hlt hb.size, fun i x hx => ?_⟩
   obtain ⟨h0, h1, h2, h3, h4⟩ := h i x hx
   exact ⟨(hb.cell hlt).trans h0, (hb.cell hlt).trans h1, (hb.cell hlt).trans h2, (hb.cell hlt).trans h3, (hb.cell hlt).trans h4⟩
def goS {σ : Type} (step : σ → Nd → Sum Int σ) : σ → List Nd → Sum Int σ
 | s, [] => .inr s
 | s, x :: r => match step s x with
   | .inl e => .inl e
   | .inr s' => goS step s' r
theorem goS_drop {σ : Type} (step : σ → Nd → Sum Int σ) (s : σ) (e : List Nd) (k : Nat) (x : Nd) (h : e[k]? = some x) : goS step s (e.drop k) = match step s x with
 | .inl e => .inl e
 | .inr s' => goS step s' (e.drop (k + 1)) := by
 have hlt : k < e.length := (List.getElem?_eq_some_iff.1 h).1
 have hv : e[k] = x := (List.getElem?_eq_some_iff.1 h).2
 rw [List.drop_eq_getElem_cons hlt, hv, goS]
def RunPost {σ : Type} (B : Nat) (I : Nat → σ → World → Prop) (r : Sum Int σ) (w : World) (en : Ending) (w' : World) : Prop :=
 Below B w w' ∧ match r with
  | .inl er => en = .returned (.int .i64 er)
  | .inr s => en = .returned (.int .i64 0) ∧ ∃ i, I i s w'
def StepPost {σ : Type} (B : Nat) (I : σ → World → Prop) (r : Sum Int σ) (w : World) (en : Ending) (w' : World) : Prop :=
 Below B w w' ∧ match r with
  | .inl er => en = .returned (.int .i64 er) ∧ (er != 0) = true
  | .inr s => en = .returned (.int .i64 0) ∧ I s w'
set_option maxHeartbeats 1000000 in
theorem run_many (fv : Value) (A : Option Addr) (n c : Nat) (w : World) (hn : 100 < n) (hm : n ≤ maxLen) :
 Calls Tryz.prog 60 #[.slice A n c, fv] w fun en w' => en = .returned (.int .i64 1) ∧ w' = w := by
 unfold maxLen at hm
 have h1 : decide ((100 : Int) < n) = true := decide_eq_true (by omega)
 go_enter Tryz.func60, Tryz.ntmps60
 go_wp2
 go_ret
 exact ⟨rfl, rfl⟩
set_option maxHeartbeats 4000000 in
theorem run_c {σ : Type} (f : FuncId) (p : Value) (hE : ∀ args w, (callFunc f args).run Tryz.prog w = .ok (.enter f args) w) (B : Nat) (I : Nat → σ → World → Prop) (step : σ → Nd → Sum Int σ) (A : Option Addr) (n c : Nat) (e : List Nd) (s0 : σ) (w : World) (hn : e.length = n) (hs : SlN w A e) (hmax : n ≤ 100)
 (hB : B ≤ w.heap.size) (hAB : ∀ b off, A = some ⟨b, off, none⟩ → e ≠ [] → b < B) (h0 : I 0 s0 w) (hI : ∀ i s w1 w2, I i s w1 → Below w1.heap.size w1 w2 → I i s w2)
 (hcall : ∀ i s x w1, i < 100 → e[i]? = some x → Below B w w1 → I i s w1 → Calls Tryz.prog f #[p, x.w] w1 (StepPost B (I (i + 1)) (step s x) w1)) :
 Calls Tryz.prog 60 #[.slice A n c, .func (.func f) #[p] #[]] w (RunPost B I (goS step s0 e) w) := by
 have Hn := Lib.hid hn
 have Hs := Lib.hid hs
 have HI := Lib.hid hI
 have Hcall := Lib.hid hcall
 have HAB := Lib.hid hAB
 have H0 := Lib.hid h0
 obtain ⟨R, hR⟩ : ∃ R, goS step s0 e = R := ⟨_, rfl⟩
 rw [hR]
 have HR := Lib.hid hR
 have h1 : decide ((100 : Int) < n) = false := decide_eq_false (by omega)
 clear hn hs hI hcall hAB h0 hR
 go_enter Tryz.func60, Tryz.ntmps60
 go_wp2_with fail
 go_loopw [13] (fun i wr => ∃ (k : Nat) (s : σ), k ≤ n ∧ i = .int .i64 k ∧ Hid (Below B w wr) ∧ Hid (I k s wr) ∧ Hid (goS step s (e.drop k) = R)) (fun i _ => n - (intOf i).toNat)
 case atStart => exact ⟨0, s0, Nat.zero_le _, rfl, Below.refl _ _, H0.out, HR.out⟩
 case round =>
  obtain ⟨k, s, hk, rfl, hb, hIk, hinv⟩ := hrel
  by_cases hlt' : k < n
  · obtain ⟨x, hx⟩ : ∃ x, e[k]? = some x := ⟨e[k]'(by rw [Hn.out]; exact hlt'), List.getElem?_eq_getElem _⟩
    rcases Hs.out with h0 | ⟨b, off, rfl, hlt, hc⟩
    · rw [h0] at hx; simp at hx
    have hbB : b < B := HAB.out b off rfl (by rintro rfl; simp at hx)
    obtain ⟨c0, c1, c2, c3, c4⟩ := hc k x hx
    have d0 := (hb.out.cell (p := ⟨b, off + k * 5, none⟩) hbB).trans c0
    have d1 := (hb.out.cell (p := ⟨b, off + k * 5 + 1, none⟩) hbB).trans c1
    have d2 := (hb.out.cell (p := ⟨b, off + k * 5 + 2, none⟩) hbB).trans c2
    have d3 := (hb.out.cell (p := ⟨b, off + k * 5 + 3, none⟩) hbB).trans c3
    have d4 := (hb.out.cell (p := ⟨b, off + k * 5 + 4, none⟩) hbB).trans c4
    have hBr : B ≤ wr.heap.size := Nat.le_trans hB hb.out.size
    have Hx := Lib.hid hx
    clear c0 c1 c2 c3 c4 hc hx hlt
    go_wp2_with fail
    have hb1 := (hb.out.alloc hBr (.cells x.cells 48))
    have hI1 := HI.out k s _ _ hIk.out (below_one wr (.cells x.cells 48))
    have hstep := goS_drop step s e k x Hx.out
    rw [hinv.out] at hstep
    refine (Hcall.out k s x _ (by omega) Hx.out hb1 hI1).mono ?_
    obtain ⟨S, hS⟩ : ∃ S, step s x = S := ⟨_, rfl⟩
    rw [hS] at hstep ⊢
    clear hS hI1 d0 d1 d2 d3 d4 hIk hinv
    rintro en w1 ⟨hb2, hpost⟩
    have Hb2 := Lib.hid (hb1.trans hb2)
    clear hb1 hb2 hb
    cases S with
    | inl er =>
      obtain ⟨rfl, hne⟩ := hpost
      have Hst := Lib.hid hstep
      clear hstep
      go_wp2
      go_ret
      rw [Hst.out]
      exact ⟨Hb2.out, rfl⟩
    | inr s' =>
      obtain ⟨rfl, hI2⟩ := hpost
      have Hst := Lib.hid hstep
      have HI2 := Lib.hid hI2
      clear hstep hI2
      go_wp2
      go_roundw
      case rel => exact ⟨k + 1, s', by omega, by go_num, Hb2, HI2, Lib.hid Hst.out.symm⟩
      case measure => simp [intOf]; omega
  · have hkn : k = n := by omega
    have hstep := hinv.out
    rw [List.drop_eq_nil_of_le (by rw [Hn.out]; omega), goS] at hstep
    have Hst := Lib.hid hstep
    clear hstep hinv
    go_wp2
    go_ret
    rw [← Hst.out]
    exact ⟨hb.out, rfl, k, hIk.out⟩
def evalR (e : List Nd) (row : List Val) : Val × Int := if 100 < e.length then (nl, 1) else match goS (stepV row) [] e with
 | .inl er => (nl, er)
 | .inr [x] => (x, 0)
 | .inr _ => (nl, 30)
theorem enVStep : ∀ args w, (callFunc 61 args).run Tryz.prog w = .ok (.enter 61 args) w := fun _ _ => by kernel_rfl
theorem stepV_err {row ks : List Val} {x : Nd} {er : Int} (h : stepV row ks x = .inl er) : (er != 0) = true := by
 unfold stepV at h
 split at h
 · cases h
 · rename_i hne
   cases h
   rw [bne]
   simpa using hne
theorem goV_err {row : List Val} : ∀ (e : List Nd) (s : List Val) (er : Int), goS (stepV row) s e = .inl er → (er != 0) = true
 | [], s, er, h => by simp [goS] at h
 | x :: r, s, er, h => by
   rw [goS] at h
   cases hs : stepV row s x with
   | inl er' => rw [hs] at h; cases h; exact stepV_err hs
   | inr s' => rw [hs] at h; exact goV_err r s' er h
set_option maxHeartbeats 4000000 in
theorem eval_few (A A2 : Option Addr) (n c m c2 : Nat) (e : List Nd) (row : List Val) (w : World) (hn : e.length = n) (hs : SlN w A e) (hmax : n ≤ 100) (hm : row.length = m) (hs2 : Sl w A2 row) (hz : ∀ x ∈ e, x.v.s.size ≤ maxLen) :
 Calls Tryz.prog 46 #[.slice A n c, .slice A2 m c2] w fun en w' => en = .returned (.tuple #[(evalR e row).1.v, .int .i64 (evalR e row).2]) ∧ Below w.heap.size w w' := by
 have Hn := Lib.hid hn
 have Hs := Lib.hid hs
 have Hm := Lib.hid hm
 have Hs2 := Lib.hid hs2
 have Hz := Lib.hid hz
 have hT : evalR e row = match goS (stepV row) [] e with
  | .inl er => (nl, er)
  | .inr [x] => (x, 0)
  | .inr _ => (nl, 30) := by unfold evalR; rw [if_neg (by omega)]
 obtain ⟨R, hR⟩ : ∃ R, evalR e row = R := ⟨_, rfl⟩
 rw [hR] at hT ⊢
 have HT := Lib.hid hT
 clear hn hs hm hs2 hz hR hT
 have hmf : ∀ (fn : Fn) (first cap : Array Value) (w : World), (Instr.makeFunc fn first cap).run Tryz.prog w = .ok (.func fn first cap) w := fun _ _ _ _ => rfl
 go_enter Tryz.func46, Tryz.ntmps46
 go_wp2_with fail
 have hk0 : Vx ((w.alloc (.cells #[.int .i64 nl.k, .int .i64 nl.n, .string nl.s] 46)).alloc (.cells #[.slice none 0 0, .slice A2 m c2] 94)) (w.heap.size + 1) (.slice none 0 0) (.slice A2 m c2) := by
  have := Vx.new (w.alloc (.cells #[.int .i64 nl.k, .int .i64 nl.n, .string nl.s] 46)) (.slice none 0 0) (.slice A2 m c2)
  simpa using this
 have hb0 := below_two w (.cells #[.int .i64 nl.k, .int .i64 nl.n, .string nl.s] 46) (.cells #[.slice none 0 0, .slice A2 m c2] 94)
 have hr0 : Bx ((w.alloc (.cells #[.int .i64 nl.k, .int .i64 nl.n, .string nl.s] 46)).alloc (.cells #[.slice none 0 0, .slice A2 m c2] 94)) w.heap.size nl := (Bx.new w nl).alloc _
 refine (run_c 61 (.pointer (some ⟨w.heap.size + 1, 0, none⟩)) enVStep (w.heap.size + 1) (fun i ks w1 => ks.length ≤ i ∧ ∃ v, Vx w1 (w.heap.size + 1) v (.slice A2 m c2) ∧ OwnU w1 (w.heap.size + 1) v ks) (stepV row) A n c e [] _ Hn.out (Hs.out.after hb0) hmax (by simp)
  (fun b off hA hne => by rcases Hs.out with h | ⟨b', off', hA', hlt, _⟩
                          · exact absurd h hne
                          · rw [hA] at hA'; cases hA'; omega)
  ⟨Nat.zero_le _, _, hk0, OwnU.nil _ _⟩ (fun i s w1 w2 h hb => ⟨h.1, h.2.choose, h.2.choose_spec.1.after hb, h.2.choose_spec.2.after hb⟩) ?_).mono ?_
 · rintro i ks x w1 hi hx hb ⟨hl, v, hk, ho⟩
   have hbw : Below w.heap.size w w1 := hb0.trans (hb.mono (by omega))
   refine (vstep_c (w.heap.size + 1) (w.heap.size + 1) x v A2 m c2 row ks w1 hk ho (Nat.le_refl _) Hm.out (Hs2.out.after hbw) (by omega) (Hz.out x (List.mem_of_getElem? hx))).mono ?_
   rintro en w2 ⟨hb2, hp⟩
   refine ⟨hb2, ?_⟩
   cases hst : stepV row ks x with
   | inl er => rw [hst] at hp; exact hp
   | inr r => rw [hst] at hp; exact ⟨hp.1, by have := stepV_len hst; omega, hp.2⟩
 · rintro en w1 ⟨hb1, hpost⟩
   have hbw : Below w.heap.size w w1 := hb0.trans (hb1.mono (by omega))
   have br : Bx w1 w.heap.size nl := hr0.below hb1 (by omega)
   have Hbw := Lib.hid hbw
   have hT := HT.out
   have g0 := br.cell0
   have g1 := br.cell1
   have g2 := br.cell2
   have f0 := br.frozen 0
   have f1 := br.frozen 1
   have f2 := br.frozen 2
   clear hk0 hb0 hb1 hbw hr0 HT
   cases hg : goS (stepV row) [] e with
   | inl er =>
     rw [hg] at hpost hT
     subst hpost hT
     have hne := goV_err e [] er hg
     clear hg
     go_wp2
     exact ret_valX (a := nl) (z := .int .i64 er) Tryz.results46 rfl rfl (br.put nl) rfl ⟨rfl, put3_below Hbw.out (Nat.le_refl _) nl⟩
   | inr ks =>
     rw [hg] at hpost hT
     obtain ⟨rfl, i, _, v, hk, ho⟩ := hpost
     have Hk := Lib.hid hk
     have Ho := Lib.hid ho
     have hlt := hk.lt
     clear hg hk ho g0 g1 g2 f0 f1 f2
     match ks, hT, Ho with
     | [], hT, Ho =>
       subst hT
       go_wp2_with fail
       refine (vresult_bad _ [] v _ _ w1 Hk.out Ho.out (by simp)).mono ?_
       rintro en w2 ⟨rfl, hb2⟩
       have br2 := br.after hb2
       have Hb2 := Lib.hid (Hbw.out.trans (hb2.mono Hbw.out.size))
       have g0 := br2.cell0
       have g1 := br2.cell1
       have g2 := br2.cell2
       have f0 := br2.frozen 0
       have f1 := br2.frozen 1
       have f2 := br2.frozen 2
       clear hb2
       go_wp2
       exact ret_valX (a := nl) (z := .int .i64 30) Tryz.results46 rfl rfl (br2.put nl) rfl ⟨rfl, put3_below Hb2.out (Nat.le_refl _) nl⟩
     | [k], hT, Ho =>
       subst hT
       go_wp2_with fail
       refine (vresult_one _ k v _ _ w1 Hk.out Ho.out).mono ?_
       rintro en w2 ⟨rfl, hb2⟩
       have br2 := br.after hb2
       have Hb2 := Lib.hid (Hbw.out.trans (hb2.mono Hbw.out.size))
       have g0 := br2.cell0
       have g1 := br2.cell1
       have g2 := br2.cell2
       have f0 := br2.frozen 0
       have f1 := br2.frozen 1
       have f2 := br2.frozen 2
       clear hb2
       go_wp2
       exact ret_valX (a := k) (z := .int .i64 0) Tryz.results46 rfl rfl (br2.put k) rfl ⟨rfl, put3_below Hb2.out (Nat.le_refl _) k⟩
     | a :: b :: r, hT, Ho =>
       subst hT
       go_wp2_with fail
       refine (vresult_bad _ (a :: b :: r) v _ _ w1 Hk.out Ho.out (by simp)).mono ?_
       rintro en w2 ⟨rfl, hb2⟩
       have br2 := br.after hb2
       have Hb2 := Lib.hid (Hbw.out.trans (hb2.mono Hbw.out.size))
       have g0 := br2.cell0
       have g1 := br2.cell1
       have g2 := br2.cell2
       have f0 := br2.frozen 0
       have f1 := br2.frozen 1
       have f2 := br2.frozen 2
       clear hb2
       go_wp2
       exact ret_valX (a := nl) (z := .int .i64 30) Tryz.results46 rfl rfl (br2.put nl) rfl ⟨rfl, put3_below Hb2.out (Nat.le_refl _) nl⟩
set_option maxHeartbeats 2000000 in
theorem eval_many (A A2 : Option Addr) (n c m c2 : Nat) (w : World) (hn : 100 < n) (hmax : n ≤ maxLen) :
 Calls Tryz.prog 46 #[.slice A n c, .slice A2 m c2] w fun en w' => en = .returned (.tuple #[nl.v, .int .i64 1]) ∧ Below w.heap.size w w' := by
 have hmf : ∀ (fn : Fn) (first cap : Array Value) (w : World), (Instr.makeFunc fn first cap).run Tryz.prog w = .ok (.func fn first cap) w := fun _ _ _ _ => rfl
 have Hmax := Lib.hid hmax
 clear hmax
 go_enter Tryz.func46, Tryz.ntmps46
 go_wp2_with fail
 refine (run_many _ A n c _ hn Hmax.out).mono ?_
 rintro en w1 ⟨rfl, rfl⟩
 go_wp2
 exact ret_valX (a := nl) (z := .int .i64 1) Tryz.results46 rfl rfl ((Bx.new w nl).alloc _) rfl ⟨rfl, below_two _ _ _⟩
theorem eval_c (A A2 : Option Addr) (n c m c2 : Nat) (e : List Nd) (row : List Val) (w : World) (hn : e.length = n) (hs : SlN w A e) (hmax : n ≤ maxLen) (hm : row.length = m) (hs2 : Sl w A2 row) (hz : ∀ x ∈ e, x.v.s.size ≤ maxLen) :
 Calls Tryz.prog 46 #[.slice A n c, .slice A2 m c2] w fun en w' => en = .returned (.tuple #[(evalR e row).1.v, .int .i64 (evalR e row).2]) ∧ Below w.heap.size w w' := by
 by_cases h : n ≤ 100
 · exact eval_few A A2 n c m c2 e row w hn hs h hm hs2 hz
 · have e1 : evalR e row = (nl, 1) := by unfold evalR; rw [if_pos (by omega)]
   rw [e1]
   exact eval_many A A2 n c m c2 w (by omega) hmax
def trueR (e : List Nd) (row : List Val) : Bool × Int := if e.length = 0 then (true, 0) else ((evalR e row).1.eq tt, (evalR e row).2)
set_option maxHeartbeats 2000000 in
theorem true_c (A A2 : Option Addr) (n c m c2 : Nat) (e : List Nd) (row : List Val) (w : World) (hn : e.length = n) (hs : SlN w A e) (hmax : n ≤ maxLen) (hm : row.length = m) (hs2 : Sl w A2 row) (hz : ∀ x ∈ e, x.v.s.size ≤ maxLen) :
 Calls Tryz.prog 26 #[.slice A n c, .slice A2 m c2] w fun en w' => en = .returned (.tuple #[.bool (trueR e row).1, .int .i64 (trueR e row).2]) ∧ Below w.heap.size w w' := by
 have hm' : n ≤ 9223372036854775807 := hmax
 have Hev := Lib.hid (eval_c A A2 n c m c2 e row w hn hs hmax hm hs2 hz)
 by_cases h0 : n = 0
 · have e1 : trueR e row = (true, 0) := by unfold trueR; rw [if_pos (by omega)]
   rw [e1]
   subst h0
   clear e1 hs hs2 hm hz hn hmax hm' Hev
   go_enter Tryz.func26, Tryz.ntmps26
   go_wp2
   go_ret2
   exact ⟨rfl, Below.refl _ _⟩
 · have e1 : trueR e row = ((evalR e row).1.eq tt, (evalR e row).2) := by unfold trueR; rw [if_neg (by omega)]
   rw [e1]
   obtain ⟨⟨v, er⟩, hr⟩ : ∃ r, evalR e row = r := ⟨_, rfl⟩
   rw [hr] at Hev ⊢
   have h1 : ((n : Int) == 0) = false := by simpa using h0
   clear e1 hs hs2 hm hz hn hmax hr
   go_enter Tryz.func26, Tryz.ntmps26
   go_wp2_with fail
   refine Hev.out.mono ?_
   rintro en w1 ⟨rfl, hb1⟩
   have bx := Bx.new w1 v
   have Hb := Lib.hid (hb1.alloc hb1.size (.cells #[.int .i64 v.k, .int .i64 v.n, .string v.s] 46))
   clear hb1 Hev
   go_wp2_with fail
   generalize w1.alloc (.cells #[.int .i64 v.k, .int .i64 v.n, .string v.s] 46) = w2 at bx Hb ⊢
   refine Reg.wp_region_vals mixed (by kernel_rfl) [(17, v.v), (18, tt.v), (19, .bool (v.eq tt)), (20, .int .i64 er), (4, .bool (v.eq tt)), (5, .int .i64 er)] 21 rfl (by kernel_rfl) ?_ ?_
   · intro F hF w' hB'
     have bx' : Bx w' w1.heap.size v := bx.after hB'
     refine ⟨?_, ?_, ?_, ?_, ?_, ?_, trivial⟩
     · exact Reg.doesV_val (ev_load bx' rfl (by rw [hF]; kernel_rfl)) (by rw [hF]; kernel_rfl) (by rw [hF]; kernel_rfl)
     · exact Reg.doesV_call (truth_c true w') (ev_call enTruth rfl (by rw [hF]; kernel_rfl)) (by rw [hF]; kernel_rfl) (by rw [hF]; kernel_rfl)
     · exact Reg.doesV_val (ev_eq v tt rfl (by rw [hF]; kernel_rfl) (by rw [hF]; kernel_rfl)) (by rw [hF]; kernel_rfl) (by rw [hF]; kernel_rfl)
     · exact Reg.doesV_val (ev_move rfl) (by rw [hF]; kernel_rfl) (by rw [hF]; kernel_rfl)
     · exact Reg.doesV_val (ev_assign rfl) (by rw [hF]; kernel_rfl) (by rw [hF]; kernel_rfl)
     · exact Reg.doesV_val (ev_assign rfl) (by rw [hF]; kernel_rfl) (by rw [hF]; kernel_rfl)
   · intro w' hB'
     simp only [Reg.putAll, Act.put, List.setIfInBounds_toArray, List.set_cons_zero, List.set_cons_succ]
     have Hb2 := Lib.hid (Hb.out.trans (hB'.mono Hb.out.size))
     clear hB'
     go_wp2
     go_ret2
     exact ⟨rfl, Hb2.out⟩
end Go.Proofs.YtbpopkgpepmlcaaGreat
