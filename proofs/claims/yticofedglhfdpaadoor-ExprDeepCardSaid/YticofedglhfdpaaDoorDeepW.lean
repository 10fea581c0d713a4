/-
  As many ones, added up: the law ExprDeep, walked; no condition.
-/
import Derived.Test.YticofedglhfdpaaDoorTrueW
import Derived.Test.YticofedglhfdpaaDoorOwnG
namespace Go.Proofs.YticofedglhfdpaaDoor
open Go Go.RowKit
set_option maxRecDepth 100000

def oneE : Nd := ⟨1, 0, iv 1⟩
def addE : Nd := ⟨2, 0, nl⟩
def deepE (n : Nat) : List Nd := List.replicate n oneE ++ List.replicate (n - 1) addE
theorem stepV_one (row s : List Val) : stepV row s oneE = .inr (s ++ [iv 1]) := by
  unfold stepV lvV conR oneE
  rw [may_iv 1]
  rfl
theorem stepK_one (cols s : List Int) : stepKS cols s oneE = .inr (s ++ [2]) := by
  unfold stepKS stepK lvK oneE
  rw [may_iv 1]
  rfl
theorem add_small (a : Int) (h0 : 0 ≤ a) (h1 : a ≤ 1000) : addR (iv 1) (iv a) = (iv (a + 1), true) := by
  have e : wrap64 (1 + a) = a + 1 := by unfold wrap64; omega
  unfold addR comp
  show (if (iv 1).k == 0 || (iv a).k == 0 then (nl, true) else if (iv 1).k != 2 || (iv a).k != 2 then (nl, false) else if (decide ((1 : Int) < wrap64 (1 + a)) == decide (0 < a)) then (iv (wrap64 (1 + a)), true) else (nl, false)) = _
  rw [e]
  have h3 : (decide ((1 : Int) < a + 1) == decide (0 < a)) = true := by
    by_cases h : 0 < a
    · rw [decide_eq_true h, decide_eq_true (show (1 : Int) < a + 1 by omega)]; rfl
    · have : a = 0 := by omega
      subst this
      rfl
  rw [h3]
  rfl
theorem stepV_add (row s : List Val) (a : Int) (h0 : 0 ≤ a) (h1 : a ≤ 1000) : stepV row (s ++ [iv 1, iv a]) addE = .inr (s ++ [iv (a + 1)]) := by
  have hl : (s ++ [iv 1, iv a]).length = s.length + 2 := by simp
  have hd : (s ++ [iv 1, iv a]).drop ((s ++ [iv 1, iv a]).length - takes 2) = [iv 1, iv a] := by
    rw [hl, show s.length + 2 - takes 2 = s.length from rfl, List.drop_left]
  have ht : (s ++ [iv 1, iv a]).take ((s ++ [iv 1, iv a]).length - takes 2) = s := by
    rw [hl, show s.length + 2 - takes 2 = s.length from rfl, List.take_left]
  have hop : opR 2 [iv 1, iv a] = (iv (a + 1), 0) := by
    unfold opR
    rw [show mtR 2 [iv 1, iv a] = true from rfl, show cmpR 2 [iv 1, iv a] = addR (iv 1) (iv a) from rfl, add_small a h0 h1]
    rfl
  have hlv : lvV row (s ++ [iv 1, iv a]) addE = (iv (a + 1), 0, s) := by
    unfold lvV addE
    rw [if_neg (by decide), if_neg (by decide)]
    show (if (s ++ [iv 1, iv a]).length < takes 2 then (nl, 30, s ++ [iv 1, iv a]) else ((opR 2 ((s ++ [iv 1, iv a]).drop ((s ++ [iv 1, iv a]).length - takes 2))).1, (opR 2 ((s ++ [iv 1, iv a]).drop ((s ++ [iv 1, iv a]).length - takes 2))).2, (s ++ [iv 1, iv a]).take ((s ++ [iv 1, iv a]).length - takes 2))) = _
    rw [hd, ht, hop, if_neg (by rw [hl]; show ¬ s.length + 2 < 2; omega)]
  unfold stepV
  rw [hlv]
  rfl
theorem stepK_add (cols s : List Int) : stepKS cols (s ++ [2, 2]) addE = .inr (s ++ [2]) := by
  have hl : (s ++ [(2 : Int), 2]).length = s.length + 2 := by simp
  have hd : (s ++ [(2 : Int), 2]).drop ((s ++ [(2 : Int), 2]).length - takes 2) = [2, 2] := by
    rw [hl, show s.length + 2 - takes 2 = s.length from rfl, List.drop_left]
  have ht : (s ++ [(2 : Int), 2]).take ((s ++ [(2 : Int), 2]).length - takes 2) = s := by
    rw [hl, show s.length + 2 - takes 2 = s.length from rfl, List.take_left]
  have hlv : lvK cols (s ++ [2, 2]) addE = (2, true, s) := by
    unfold lvK addE
    rw [if_neg (by decide), if_neg (by decide)]
    show (if (s ++ [(2 : Int), 2]).length < takes 2 then (0, false, s ++ [(2 : Int), 2]) else ((kindR 2 ((s ++ [(2 : Int), 2]).drop ((s ++ [(2 : Int), 2]).length - takes 2))).1, (kindR 2 ((s ++ [(2 : Int), 2]).drop ((s ++ [(2 : Int), 2]).length - takes 2))).2, (s ++ [(2 : Int), 2]).take ((s ++ [(2 : Int), 2]).length - takes 2))) = _
    rw [hd, ht, if_neg (by rw [hl]; show ¬ s.length + 2 < 2; omega)]
    rfl
  unfold stepKS stepK
  rw [hlv]
  rfl
theorem goS_app {σ : Type} (step : σ → Nd → Sum Int σ) : ∀ (e r : List Nd) (s s' : σ), goS step s e = .inr s' → goS step s (e ++ r) = goS step s' r
  | [], r, s, s', h => by rw [goS] at h; cases h; rfl
  | x :: e, r, s, s', h => by
    rw [goS] at h
    rw [List.cons_append, goS]
    cases hs : step s x with
    | inl er => rw [hs] at h; cases h
    | inr s1 => rw [hs] at h; exact goS_app step e r s1 s' h
theorem ones_V (row : List Val) : ∀ (n : Nat) (s : List Val), goS (stepV row) s (List.replicate n oneE) = .inr (s ++ List.replicate n (iv 1))
  | 0, s => by simp [goS]
  | n + 1, s => by
    rw [List.replicate_succ, goS, stepV_one]
    show goS (stepV row) (s ++ [iv 1]) (List.replicate n oneE) = _
    rw [ones_V row n, List.append_assoc, List.replicate_succ]
    rfl
theorem ones_K (cols : List Int) : ∀ (n : Nat) (s : List Int), goS (stepKS cols) s (List.replicate n oneE) = .inr (s ++ List.replicate n 2)
  | 0, s => by simp [goS]
  | n + 1, s => by
    rw [List.replicate_succ, goS, stepK_one]
    show goS (stepKS cols) (s ++ [2]) (List.replicate n oneE) = _
    rw [ones_K cols n, List.append_assoc, List.replicate_succ]
    rfl
theorem adds_V (row : List Val) : ∀ (m : Nat) (a : Int), 0 ≤ a → a + m ≤ 1000 → goS (stepV row) (List.replicate m (iv 1) ++ [iv a]) (List.replicate m addE) = .inr [iv (a + m)]
  | 0, a, _, _ => by simp [goS]
  | m + 1, a, h0, h1 => by
    have e : List.replicate (m + 1) (iv 1) ++ [iv a] = List.replicate m (iv 1) ++ [iv 1, iv a] := by
      rw [List.replicate_succ', List.append_assoc]
      rfl
    rw [e, List.replicate_succ, goS, stepV_add row _ a h0 (by omega)]
    show goS (stepV row) (List.replicate m (iv 1) ++ [iv (a + 1)]) (List.replicate m addE) = _
    rw [adds_V row m (a + 1) (by omega) (by omega), show a + 1 + (m : Int) = a + ((m + 1 : Nat) : Int) by omega]
theorem adds_K (cols : List Int) : ∀ (m : Nat), goS (stepKS cols) (List.replicate m 2 ++ [2]) (List.replicate m addE) = .inr [2]
  | 0 => by simp [goS]
  | m + 1 => by
    have e : List.replicate (m + 1) (2 : Int) ++ [2] = List.replicate m 2 ++ [2, 2] := by
      rw [List.replicate_succ', List.append_assoc]
      rfl
    rw [e, List.replicate_succ, goS, stepK_add]
    exact adds_K cols m
theorem deep_len (n : Nat) (h : 1 ≤ n) : (deepE n).length = 2 * n - 1 := by simp [deepE]; omega
theorem deep_eval (n : Nat) (h : 1 ≤ n) (hn : n ≤ 80) : evalR (deepE n) [] = if 100 < 2 * n - 1 then (nl, 1) else (iv n, 0) := by
  unfold evalR
  rw [deep_len n h]
  split
  · rfl
  · unfold deepE
    obtain ⟨m, rfl⟩ : ∃ m, n = m + 1 := ⟨n - 1, by omega⟩
    rw [goS_app _ _ _ _ _ (ones_V [] (m + 1) []), List.nil_append, List.replicate_succ', Nat.add_sub_cancel, adds_V [] m 1 (by omega) (by omega), show (1 : Int) + (m : Int) = ((m + 1 : Nat) : Int) by omega]
theorem deep_type (n : Nat) (h : 1 ≤ n) : typeR (deepE n) [] = if 100 < 2 * n - 1 then (0, 1) else (2, 0) := by
  unfold typeR
  rw [deep_len n h]
  split
  · rfl
  · unfold deepE
    obtain ⟨m, rfl⟩ : ∃ m, n = m + 1 := ⟨n - 1, by omega⟩
    rw [goS_app _ _ _ _ _ (ones_K [] (m + 1) []), List.nil_append, List.replicate_succ', Nat.add_sub_cancel, adds_K [] m]
theorem deep_size (n : Nat) : ∀ x ∈ deepE n, x.v.s.size ≤ maxLen := by
  intro x hx
  unfold deepE at hx
  rcases List.mem_append.1 hx with h | h
  · rw [(List.mem_replicate.1 h).2]; exact Nat.zero_le _
  · rw [(List.mem_replicate.1 h).2]; exact Nat.zero_le _

theorem enrInt : ∀ args w, (callFunc 15 args).run Tryd.prog w = .ok (.enter 15 args) w := fun _ _ => by kernel_rfl
def ndRd (x : Nd) : List Value := x.cells.toList
theorem ndOk : ElOk Tryd.prog 23 40 5 48 (Nd.w ⟨0, 0, nl⟩) ndRd where
  under := Tryd.underlying23
  info := by kernel_rfl
  zs := rfl
  pos := by decide
  len := fun _ => rfl
  one := fun x u hu => by
    simp [ndRd, Nd.cells] at hu
    rcases hu with rfl | rfl | rfl | rfl | rfl <;> rfl
theorem SlG.slN {w : World} {A : Option Addr} {e : List Nd} (h : SlG w A 5 ndRd e) : SlN w A e := by
  rcases h with h | ⟨b, off, hA, hlt, h⟩
  · exact .inl h
  · exact .inr ⟨b, off, hA, hlt, fun i x hx => ⟨h i x hx 0 _ rfl, h i x hx 1 _ rfl, h i x hx 2 _ rfl, h i x hx 3 _ rfl, h i x hx 4 _ rfl⟩⟩
abbrev OwnN (w : World) (B : Nat) (v : Value) (e : List Nd) : Prop := OwnG w B 40 5 ndRd v e

set_option maxHeartbeats 1000000 in
theorem deep_c (k : Int) (w : World) (hk : -9223372036854775808 ≤ k ∧ k ≤ 9223372036854775807) (hw : Wd w) :
    Calls Tryd.prog 6 #[.int .i64 k] w fun en w' => en = .returned (.bool true) ∧ Below w.heap.size w w' := by
  have Hw := Lib.hid hw
  clear hw
  go_enter Tryd.func6, Tryd.ntmps6
  go_wp2_with fail
  refine (fixed_c _ Hw.out).mono ?_
  rintro en w1 ⟨rfl, hb1⟩
  have Hb1 := Lib.hid hb1
  clear hb1
  by_cases hlo : k < 1
  · go_wp2_with fail
    refine (fixed_c _ (Hw.out.after Hb1.out)).mono ?_
    rintro en w3 ⟨rfl, hb3⟩
    have Hb3 := Lib.hid (Hb1.out.trans (hb3.mono Hb1.out.size))
    clear hb3
    go_wp2
    go_ret
    exact ⟨rfl, Hb3.out⟩
  by_cases hhi : 80 < k
  · go_wp2_with fail
    refine (fixed_c _ (Hw.out.after Hb1.out)).mono ?_
    rintro en w3 ⟨rfl, hb3⟩
    have Hb3 := Lib.hid (Hb1.out.trans (hb3.mono Hb1.out.size))
    clear hb3
    go_wp2
    go_ret
    exact ⟨rfl, Hb3.out⟩
  obtain ⟨n, rfl⟩ : ∃ n : Nat, k = n := ⟨k.toNat, by omega⟩
  have hn1 : 1 ≤ n := by omega
  have hn2 : n ≤ 80 := by omega
  clear hlo hhi hk
  go_wp2_with fail
  have hown : OwnN (w1.alloc (.cells #[] 40)) w.heap.size (.slice (some ⟨w1.heap.size, 0, none⟩) 0 0) [] := OwnG.made w1 w.heap.size _ #[] 0 Hb1.out.size (Nat.zero_le _) rfl
  have hb2 := Hb1.out.alloc Hb1.out.size (.cells #[] 40)
  have Hown := Lib.hid hown
  have Hb2 := Lib.hid hb2
  clear hown hb2
  go_loopw [3, 4] (fun v i wr => ∃ j : Nat, j ≤ n ∧ i = .int .i64 j ∧ Hid (OwnN wr w.heap.size v (List.replicate j oneE)) ∧ Hid (Below w.heap.size w wr)) (fun _ i _ => n - (intOf i).toNat)
  case atStart => exact ⟨0, Nat.zero_le _, rfl, Hown, Hb2⟩
  case round =>
    obtain ⟨j, hj, rfl, ho, hb⟩ := hrel
    clear Hown Hb2 Hb1
    obtain ⟨A, c, hv⟩ := ho.out.isSlice
    rw [List.length_replicate] at hv
    subst hv
    by_cases hlt : j < n
    · go_wp2_with fail
      refine (rint_c 1 _).mono ?_
      rintro en w2 ⟨rfl, hb2⟩
      have Ho2 := Lib.hid (ho.out.after hb2)
      have Hb2 := Lib.hid (hb.out.trans (hb2.mono hb.out.size))
      clear ho hb hb2
      go_wp2_with (at_builtin; go_must (
        refine wpList_appG ndOk rfl (.tmp 27) (.tmp 30) rfl w.heap.size _ (List.replicate j oneE) [oneE] (some ⟨w2.heap.size, 0, none⟩) 1 1 rfl (Ho2.out.alloc _) rfl rfl (SlG.new ndOk.len [oneE] rfl) (by simp [maxLen]; omega) (by simp; omega) (by have := Hb2.out.size; simp; omega) ?_
        intro v3 w3 hv3 hg3
        have e3 : List.replicate j oneE ++ [oneE] = List.replicate (j + 1) oneE := List.replicate_succ'.symm
        rw [e3] at hv3
        have Hv3 := Lib.hid hv3
        have Hb3 := Lib.hid ((Hb2.out.alloc Hb2.out.size _).grown hg3 (by have := Hb2.out.size; simp; omega) (fun k hk => (Ho2.out.lt k hk).1))
        clear hv3 hg3 e3))
      go_roundw
      case rel => exact ⟨j + 1, by omega, by go_num, Hv3, Hb3⟩
      case measure => simp [intOf]; omega
    · have hjn : j = n := by omega
      subst hjn
      go_wp2_with fail
      go_loopw [3, 5] (fun v i wr => ∃ q : Nat, 1 ≤ q ∧ q ≤ j ∧ i = .int .i64 q ∧ Hid (OwnN wr w.heap.size v (List.replicate j oneE ++ List.replicate (q - 1) addE)) ∧ Hid (Below w.heap.size w wr)) (fun _ i _ => j - (intOf i).toNat)
      case atStart => exact ⟨1, Nat.le_refl _, hn1, rfl, Lib.hid (by simpa using ho.out), hb⟩
      case round =>
        obtain ⟨q, hq1, hq, rfl, ho, hb⟩ := hrel
        obtain ⟨A, c, hv⟩ := ho.out.isSlice
        rw [List.length_append, List.length_replicate, List.length_replicate] at hv
        obtain ⟨L, hL⟩ : ∃ L, j + (q - 1) = L := ⟨_, rfl⟩
        rw [hL] at hv
        subst hv
        by_cases hlt : q < j
        · go_wp2_with (at_builtin; go_must (
            refine wpList_appG ndOk rfl (.tmp 37) (.tmp 39) rfl w.heap.size _ (List.replicate j oneE ++ List.replicate (q - 1) addE) [addE] (some ⟨wr.heap.size, 0, none⟩) 1 1 rfl (ho.out.alloc _) rfl rfl (SlG.new ndOk.len [addE] rfl) (by simp [maxLen]; omega) (by simp; omega) (by have := hb.out.size; simp; omega) ?_
            intro v3 w3 hv3 hg3
            have e3 : (List.replicate j oneE ++ List.replicate (q - 1) addE) ++ [addE] = List.replicate j oneE ++ List.replicate (q + 1 - 1) addE := by
              rw [List.append_assoc, ← List.replicate_succ', show q - 1 + 1 = q + 1 - 1 by omega]
            rw [e3] at hv3
            have Hv3 := Lib.hid hv3
            have Hb3 := Lib.hid ((hb.out.alloc hb.out.size _).grown hg3 (by have := hb.out.size; simp; omega) (fun k hk => (ho.out.lt k hk).1))
            clear hv3 hg3 e3))
          go_roundw
          case rel => exact ⟨q + 1, by omega, by omega, by go_num, Hv3, Hb3⟩
          case measure => simp [intOf]; omega
        · have hqj : q = j := by omega
          subst hqj
          have hE : OwnN wr w.heap.size (.slice A L c) (deepE q) := ho.out
          obtain ⟨A', c', hv, _, _, hsl⟩ := hE.sl ndOk.len
          have hLq : L = 2 * q - 1 := by omega
          rw [deep_len q hn1, ← hLq] at hv
          injection hv with hA _ hc
          subst hA hc
          have Hsl := Lib.hid hsl.slN
          have Hlen := Lib.hid ((deep_len q hn1).trans hLq.symm)
          have hL2 : L ≤ 200 := by omega
          clear hsl hE ho hLq hL
          go_wp2_with fail
          refine (eval_c A none L c 0 0 (deepE q) [] wr Hlen.out Hsl.out (by unfold maxLen; omega) rfl (.inl rfl) (deep_size q)).mono ?_
          rintro en w4 ⟨rfl, hb4⟩
          rw [deep_eval q hn1 hn2]
          have Hs4 := Lib.hid (Hsl.out.after hb4)
          have Hb4 := Lib.hid (hb.out.trans (hb4.mono hb.out.size))
          clear hb4 Hsl hb
          by_cases hbig : 100 < 2 * q - 1
          · rw [if_pos hbig]
            have hbx := Bx.new w4 nl
            have hb5 := below_one w4 (.cells #[.int .i64 nl.k, .int .i64 nl.n, .string nl.s] 34)
            go_wp2_with fail
            refine (type_c A none L c 0 0 (deepE q) [] _ Hlen.out (Hs4.out.after hb5) (by unfold maxLen; omega) rfl (.inl rfl) (deep_size q)).mono ?_
            rintro en w6 ⟨rfl, hb6⟩
            rw [deep_type q hn1, if_pos hbig]
            have Hb6 := Lib.hid ((Hb4.out.trans (hb5.mono Hb4.out.size)).trans (hb6.mono (by have := Hb4.out.size; simp; omega)))
            clear hbx hb5 hb6
            have h100 : (100 : Int) < 2 * q - 1 := by omega
            go_wp2
            go_ret
            exact ⟨rfl, Hb6.out⟩
          · rw [if_neg hbig]
            have hbx := Bx.new w4 (iv q)
            have hb5 := below_one w4 (.cells #[.int .i64 (iv q).k, .int .i64 (iv q).n, .string (iv q).s] 34)
            have Hbx := Lib.hid hbx
            have Hb5 := Lib.hid (Hb4.out.trans (hb5.mono Hb4.out.size))
            have Hs5 := Lib.hid (Hs4.out.after hb5)
            clear hbx hb5 Hb4 Hs4
            go_wp2_with fail
            generalize w4.alloc (.cells #[.int .i64 (iv q).k, .int .i64 (iv q).n, .string (iv q).s] 34) = w5 at Hbx Hb5 Hs5 ⊢
            refine (type_c A none L c 0 0 (deepE q) [] w5 Hlen.out Hs5.out (by unfold maxLen; omega) rfl (.inl rfl) (deep_size q)).mono ?_
            rintro en w6 ⟨rfl, hb6⟩
            rw [deep_type q hn1, if_neg hbig]
            have Hb6 := Lib.hid (Hb5.out.trans (hb6.mono Hb5.out.size))
            have Hbx6 := Lib.hid (Hbx.out.after hb6)
            clear hb6 Hb5 Hbx Hs5
            have h100 : ¬ (100 : Int) < 2 * q - 1 := by omega
            go_wp2_with fail
            refine Reg.wp_region_vals mixed (by kernel_rfl) [(61, .int .i64 0), (62, .bool true), (63, .bool true), (64, (iv q).v), (65, .int .i64 (q : Int)), (66, (iv q).v), (67, .bool true), (68, .bool true), (69, .bool true), (70, .int .i64 0), (71, .bool true), (72, .bool true), (73, .bool true), (74, .int .i64 2), (75, .bool true), (76, .bool true), (2, .bool true)] 77 rfl (by kernel_rfl) ?_ ?_
            · intro F hF w' hB'
              have bx := Hbx6.out.after hB'
              refine ⟨?_, ?_, ?_, ?_, ?_, ?_, ?_, ?_, ?_, ?_, ?_, ?_, ?_, ?_, ?_, ?_, ?_, trivial⟩
              · exact Reg.doesV_val (ev_move rfl) (by rw [hF]; kernel_rfl) (by rw [hF]; kernel_rfl)
              · exact Reg.doesV_val (ev_eqIC (a := 0) rfl (by rw [hF]; kernel_rfl)) (by rw [hF]; kernel_rfl) (by rw [hF]; kernel_rfl)
              · exact Reg.doesV_val (ev_move rfl) (by rw [hF]; kernel_rfl) (by rw [hF]; kernel_rfl)
              · exact Reg.doesV_val (ev_load bx rfl (by rw [hF]; kernel_rfl)) (by rw [hF]; kernel_rfl) (by rw [hF]; kernel_rfl)
              · exact Reg.doesV_val (ev_move rfl) (by rw [hF]; kernel_rfl) (by rw [hF]; kernel_rfl)
              · exact Reg.doesV_call (rint_c q w') (ev_call enrInt rfl (by rw [hF]; kernel_rfl)) (by rw [hF]; kernel_rfl) (by rw [hF]; kernel_rfl)
              · exact Reg.doesV_val (by rw [ev_eq (iv q) (iv q) rfl (by rw [hF]; kernel_rfl) (by rw [hF]; kernel_rfl), Val.eq_self]) (by rw [hF]; kernel_rfl) (by rw [hF]; kernel_rfl)
              · exact Reg.doesV_val (ev_pick true rfl (by rw [hF]; kernel_rfl)) (by rw [hF]; kernel_rfl) (by rw [hF]; kernel_rfl)
              · exact Reg.doesV_val (ev_move rfl) (by rw [hF]; kernel_rfl) (by rw [hF]; kernel_rfl)
              · exact Reg.doesV_val (ev_move rfl) (by rw [hF]; kernel_rfl) (by rw [hF]; kernel_rfl)
              · exact Reg.doesV_val (ev_eqIC (a := 0) rfl (by rw [hF]; kernel_rfl)) (by rw [hF]; kernel_rfl) (by rw [hF]; kernel_rfl)
              · exact Reg.doesV_val (ev_pick true rfl (by rw [hF]; kernel_rfl)) (by rw [hF]; kernel_rfl) (by rw [hF]; kernel_rfl)
              · exact Reg.doesV_val (ev_move rfl) (by rw [hF]; kernel_rfl) (by rw [hF]; kernel_rfl)
              · exact Reg.doesV_val (ev_move rfl) (by rw [hF]; kernel_rfl) (by rw [hF]; kernel_rfl)
              · exact Reg.doesV_val (ev_eqIC (a := 2) rfl (by rw [hF]; kernel_rfl)) (by rw [hF]; kernel_rfl) (by rw [hF]; kernel_rfl)
              · exact Reg.doesV_val (ev_pick true rfl (by rw [hF]; kernel_rfl)) (by rw [hF]; kernel_rfl) (by rw [hF]; kernel_rfl)
              · exact Reg.doesV_val (ev_assign rfl) (by rw [hF]; kernel_rfl) (by rw [hF]; kernel_rfl)
            · intro w9 hB'
              simp only [Reg.putAll, Act.put, List.setIfInBounds_toArray, List.set_cons_zero, List.set_cons_succ]
              have Hb9 := Lib.hid (Hb6.out.trans (hB'.mono Hb6.out.size))
              clear hB'
              go_wp2
              go_ret
              exact ⟨rfl, Hb9.out⟩
end Go.Proofs.YticofedglhfdpaaDoor
