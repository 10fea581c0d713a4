/-
  The document's own: the product of two bags. Of all views, and bags of at most 60 rows each.
-/
import Derived.Test.YtbpopkgpepmlcaaGreatRL
set_option linter.unusedVariables false
set_option linter.unusedSimpArgs false
namespace Go.Proofs.YtbpopkgpepmlcaaGreat
open Go Go.RowKit
set_option maxRecDepth 100000
attribute [local go_sem ↓] Go.wp_at_zero Go.wp_at_succ

theorem pairL_takes {i j : Int} {a b : Bg} {k : Nat} {x : List Val × Int} (h : a[k]? = some x) : pairL i j (a.take (k + 1)) b = pairL i j (a.take k) b ++ pairL i j [x] b := by
  unfold pairL
  rw [List.take_add_one, h, List.flatMap_append]
  rfl
theorem pairL1_take {i j : Int} {x : List Val × Int} {b : Bg} {k : Nat} {y : List Val × Int} (h : b[k]? = some y) : pairL i j [x] (b.take (k + 1)) = pairL i j [x] (b.take k) ++ if meetB i j x.1 y.1 then [(x.1 ++ y.1, x.2 * y.2)] else [] := by
  unfold pairL
  rw [List.take_add_one, h]
  simp only [List.flatMap_cons, List.flatMap_nil, List.append_nil, List.filter_append, List.map_append]
  congr 1
  show List.map _ (List.filter _ [y]) = _
  rw [List.filter_cons, List.filter_nil]
  cases meetB i j x.1 y.1 <;> rfl
def soFar (i j : Int) (a b : Bg) (p : Nat) (l : Bg) : Bg := pairL i j (a.take p) b ++ l
theorem soFar_len {i j : Int} {a b : Bg} {p k : Nat} {x : List Val × Int} (ha : a.length ≤ 60) (hb : b.length ≤ 60) : (soFar i j a b p (pairL i j [x] (b.take k))).length ≤ 3660 := by
  unfold soFar
  rw [List.length_append, pairL_len, pairL_len]
  have h1 := pairs_le i j (a.take p) b
  have h2 := pairs_le i j [x] (b.take k)
  have h3 : (a.take p).length ≤ 60 := by rw [List.length_take]; omega
  have h4 : (b.take k).length ≤ 60 := by rw [List.length_take]; omega
  have h5 : (a.take p).length * b.length ≤ 60 * 60 := Nat.mul_le_mul h3 hb
  have h6 : [x].length * (b.take k).length ≤ 1 * 60 := Nat.mul_le_mul (Nat.le_refl 1) h4
  omega
theorem bd_fold {L : Bg} (h : ∀ r ∈ L, r.1.length ≤ 40 ∧ fitQ r.2 = true) (hl : L.length ≤ 3660) : Bd 3660000000000 (bothB [] L) := by
  have hb : Bd 1000000000 L := fun x hx => by
    have h1 := (h x hx).2
    unfold fitQ at h1
    rw [Bool.and_eq_true, decide_eq_true_eq, decide_eq_true_eq] at h1
    exact h1
  intro x hx
  have ha : Asc (bothB [] L) := asc_both _ _ List.Pairwise.nil
  have h2 := look_mem _ x ha hx
  rw [look_both _ _ _ List.Pairwise.nil] at h2
  have h3 : lookB [] x.1 = 0 := rfl
  have h4 := sum_bd 1000000000 (by decide) L x.1 hb
  omega
structure ProI (w : World) (A : Option Addr) (n : Nat) (os : List Ct) (L : Bg) : Prop where
  bag : BgIn w A n os
  said : pl os = bothB [] L
  each : ∀ r ∈ L, r.1.length ≤ 40 ∧ fitQ r.2 = true
theorem ProI.after {w w' : World} {A : Option Addr} {n : Nat} {os : List Ct} {L : Bg} (h : ProI w A n os L) (hb : Below w.heap.size w w') : ProI w' A n os L := ⟨h.bag.after hb, h.said, h.each⟩
theorem ProI.le {w : World} {A : Option Addr} {n : Nat} {os : List Ct} {L : Bg} (h : ProI w A n os L) : n ≤ L.length := by
  have h1 := len_both1 L []
  rw [← h.said, pl_len, h.bag.len] at h1
  simpa using h1
theorem pair_bad {i j : Int} {a b : Bg} {x y : List Val × Int} (hx : x ∈ a) (hy : y ∈ b) (hm : meetB i j x.1 y.1 = true) (ha : mayBag a = true) (hb : mayBag b = true) (h : ¬ ((x.1 ++ y.1).length ≤ 40 ∧ fitQ (x.2 * y.2) = true)) : productR false i j a b = none := by
  unfold productR
  rw [ha, hb]
  have h1 : prodOk i j a b = false := by
    cases hk : prodOk i j a b with
    | false => rfl
    | true =>
      exfalso
      unfold prodOk at hk
      rw [Bool.and_eq_true, Bool.and_eq_true, List.all_eq_true] at hk
      have h2 := List.all_eq_true.1 (hk.2.1 x hx) y hy
      rw [hm, Bool.not_true, Bool.false_or, Bool.and_eq_true, decide_eq_true_eq] at h2
      exact h h2
  rw [h1]
  rfl
theorem pair_good {i j : Int} {a b : Bg} (ha : mayBag a = true) (hb : mayBag b = true) (la : a.length ≤ 60) (lb : b.length ≤ 60) (h : ∀ r ∈ pairL i j a b, r.1.length ≤ 40 ∧ fitQ r.2 = true) : productR false i j a b = if mayBag (bothB [] (pairL i j a b)) then some (bothB [] (pairL i j a b)) else none := by
  have e : bothB [] (pairL i j a b) = prodB i j a b := by rw [← ones_plus, plus_pairs]
  have h1 : decide (pairsN i j a b ≤ 10000) = true := decide_eq_true (by
    have k1 := pairs_le i j a b
    have k2 : a.length * b.length ≤ 60 * 60 := Nat.mul_le_mul la lb
    omega)
  have h2 : (a.all fun x => b.all fun y => !meetB i j x.1 y.1 || (decide ((x.1 ++ y.1).length ≤ 40) && fitQ (x.2 * y.2))) = true := by
    rw [List.all_eq_true]
    intro x hx
    rw [List.all_eq_true]
    intro y hy
    cases hm : meetB i j x.1 y.1 with
    | false => rfl
    | true =>
      have k := h _ (pairL_mem.2 ⟨x, hx, y, hy, hm, rfl⟩)
      rw [decide_eq_true k.1, k.2]
      rfl
  unfold productR prodOk
  rw [ha, hb, h1, h2, e]
  cases mayBag (prodB i j a b) <;> rfl
set_option maxHeartbeats 16000000 in
theorem rproduct10_c (x : Vq) (A B : Option Addr) (n m c d : Nat) (cs ds : List Ct) (w : World) (hA : BgIn w A n cs) (hB : BgIn w B m ds) (hn : n ≤ 60) (hm : m ≤ 60) :
    Calls Tryz.prog 7 #[x.w, .slice A n c, .slice B m d] w fun e w' => ∃ A' n' c' os er, e = .returned (.tuple #[.slice A' n' c', .int .i64 er]) ∧ ErrSaid w A' n' os er (productR x.wth.toList.isEmpty x.on0 x.on1 (pl cs) (pl ds)) w' := by
  have HA := Lib.hid hA
  have HB := Lib.hid hB
  clear hA hB
  obtain ⟨nm, fr, wt, o0, o1, eA, en, ec, ee, pA, pn, pc, ps, gr, aA, an, ac⟩ := x
  have hb0 : Below w.heap.size w (w.alloc (.cells #[.string nm, .string fr, .string wt, .int .i64 o0, .int .i64 o1, .slice eA en ec, .slice pA pn pc, .bool gr, .slice aA an ac] 28)) := below_one _ _
  have hq0 : Bq (w.alloc (.cells #[.string nm, .string fr, .string wt, .int .i64 o0, .int .i64 o1, .slice eA en ec, .slice pA pn pc, .bool gr, .slice aA an ac] 28)) w.heap.size (⟨nm, fr, wt, o0, o1, eA, en, ec, ee, pA, pn, pc, ps, gr, aA, an, ac⟩ : Vq) := Bq.new w (⟨nm, fr, wt, o0, o1, eA, en, ec, ee, pA, pn, pc, ps, gr, aA, an, ac⟩ : Vq)
  have hl0 : w.heap.size < (w.alloc (.cells #[.string nm, .string fr, .string wt, .int .i64 o0, .int .i64 o1, .slice eA en ec, .slice pA pn pc, .bool gr, .slice aA an ac] 28)).heap.size := by simp
  have Hb0 := Lib.hid hb0
  have HQ := Lib.hid hq0
  have Hl := Lib.hid hl0
  clear hb0 hq0 hl0
  dsimp only [Vq.w]
  obtain ⟨R, hR⟩ : ∃ R, productR wt.toList.isEmpty o0 o1 (pl cs) (pl ds) = R := ⟨_, rfl⟩
  rw [hR]
  have HR := Lib.hid hR
  clear hR
  go_enter Tryz.func7, Tryz.ntmps7
  go_wp2_with fail
  refine (rmayBag_c A n c cs _ (HA.out.after Hb0.out)).mono ?_
  rintro e w1 ⟨rfl, hb⟩
  replace HQ := Lib.hid (HQ.out.below hb Hl.out)
  replace Hl := Lib.hid (Nat.lt_of_lt_of_le Hl.out hb.size)
  replace Hb0 := Lib.hid (below_via Hb0.out hb)
  clear hb
  cases hma : mayBag (pl cs)
  case false =>
    have HF : Hid (ErrSaid w none 0 [] 0 R w1) := Lib.hid ⟨Hb0.out, bgIn_nil _, by rw [← HR.out]; unfold productR; rw [hma]; exact ⟨rfl, rfl⟩⟩
    clear hma
    go_wp2
    go_ret2
    exact ⟨_, _, _, _, _, rfl, HF.out⟩
  case true =>
  have Hma := Lib.hid hma
  clear hma
  go_wp2_with fail
  refine (rmayBag_c B m d ds _ (HB.out.after Hb0.out)).mono ?_
  rintro e w2 ⟨rfl, hb⟩
  replace HQ := Lib.hid (HQ.out.below hb Hl.out)
  replace Hl := Lib.hid (Nat.lt_of_lt_of_le Hl.out hb.size)
  replace Hb0 := Lib.hid (below_via Hb0.out hb)
  clear hb
  cases hmb : mayBag (pl ds)
  case false =>
    have HF : Hid (ErrSaid w none 0 [] 0 R w2) := Lib.hid ⟨Hb0.out, bgIn_nil _, by rw [← HR.out]; unfold productR; rw [hmb, Bool.and_false]; exact ⟨rfl, rfl⟩⟩
    clear hmb
    go_wp2
    go_ret2
    exact ⟨_, _, _, _, _, rfl, HF.out⟩
  case true =>
  have Hmb := Lib.hid hmb
  clear hmb
  have q2 := HQ.out.wth
  try simp only at q2
  have lq := Hl.out
  cases he : wt.toList.isEmpty
  case true =>
    have HF : Hid (ErrSaid w A n cs 0 R w2) := Lib.hid ⟨Hb0.out, HA.out.after Hb0.out, by rw [← HR.out]; unfold productR; rw [Hma.out, Hmb.out, he]; exact ⟨rfl, rfl⟩⟩
    go_wp2
    go_ret2
    exact ⟨_, _, _, _, _, rfl, HF.out⟩
  case false =>
  have HE := Lib.hid he
  have Hb5 : Hid (Below w2.heap.size w2 (w2.alloc (.cells #[] 44))) := Lib.hid (below_one _ _)
  go_wp2_with fail
  clear q2 lq he
  obtain ⟨W, hW⟩ : ∃ W : World, w2.alloc (.cells #[] 44) = W := ⟨_, rfl⟩
  rw [hW] at Hb5 ⊢
  clear hW
  replace HQ := Lib.hid (HQ.out.below Hb5.out Hl.out)
  replace Hl := Lib.hid (Nat.lt_of_lt_of_le Hl.out Hb5.out.size)
  replace Hb0 := Lib.hid (below_via Hb0.out Hb5.out)
  have HA := Lib.hid (HA.out.after Hb0.out)
  have HB := Lib.hid (HB.out.after Hb0.out)
  clear Hb5
  have hla : (pl cs).length ≤ 60 := by rw [pl_len, HA.out.len]; exact hn
  have hlb : (pl ds).length ≤ 60 := by rw [pl_len, HB.out.len]; exact hm
  have HLa := Lib.hid hla
  have HLb := Lib.hid hlb
  clear hla hlb
  go_loopw [8, 9, 10] (fun v p q wr => ∃ (i n' P : Nat) (A' : Option Addr) (c' : Nat) (os : List Ct), i ≤ n ∧ q = .int .i64 i ∧ p = .int .i64 P ∧ v = .slice A' n' c' ∧ P ≤ 3660 ∧ Hid (P = (soFar o0 o1 (pl cs) (pl ds) i []).length) ∧ Hid (Below W.heap.size W wr) ∧ Hid (ProI wr A' n' os (soFar o0 o1 (pl cs) (pl ds) i []))) (fun _ _ q _ => n - (intOf q).toNat)
  case atStart => exact ⟨0, 0, 0, _, 0, [], Nat.zero_le _, rfl, rfl, rfl, Nat.zero_le _, Lib.hid rfl, Lib.hid (Below.refl _ _), Lib.hid ⟨⟨rfl, Nat.zero_le _, .inl rfl, nofun⟩, rfl, nofun⟩⟩
  case round =>
    obtain ⟨i, n', P, A', c', os, hi, rfl, rfl, rfl, hP, HP, hb, HI⟩ := hrel
    by_cases hlt : i < n
    · obtain ⟨b, off, rfl⟩ := HA.out.sl.some2 (k := i) (by rw [HA.out.len]; exact hlt)
      obtain ⟨x, hx⟩ : ∃ x, cs[i]? = some x := ⟨_, List.getElem?_eq_getElem (by rw [HA.out.len]; exact hlt)⟩
      obtain ⟨hblt, c0, c1⟩ := HA.out.sl.cell2 hx
      have Hblt := Lib.hid hblt
      have Hc0 := Lib.hid c0
      have Hc1 := Lib.hid c1
      have Hxw := Lib.hid (HA.out.each x (List.mem_of_getElem? hx))
      have Hxm := Lib.hid (pl_mem (List.mem_of_getElem? hx))
      have Htk := Lib.hid (pairL_takes (i := o0) (j := o1) (b := pl ds) (pl_at hx))
      clear hblt c0 c1 hx
      obtain ⟨⟨xA, xn, xc, xs⟩, N⟩ := x
      have hgo : (i : Int) < n := by omega
      have HI0 : Hid (ProI wr A' n' os (soFar o0 o1 (pl cs) (pl ds) i (pairL o0 o1 [(xs, N)] ((pl ds).take 0)))) := Lib.hid HI.out
      go_wp2_with fail
      go_loopw [8, 9, 11] (fun v p q wr => ∃ (k n' P : Nat) (A' : Option Addr) (c' : Nat) (os : List Ct), k ≤ m ∧ q = .int .i64 k ∧ p = .int .i64 P ∧ v = .slice A' n' c' ∧ P ≤ 3660 ∧ Hid (P = (soFar o0 o1 (pl cs) (pl ds) i (pairL o0 o1 [(xs, N)] ((pl ds).take k))).length) ∧ Hid (Below W.heap.size W wr) ∧ Hid (ProI wr A' n' os (soFar o0 o1 (pl cs) (pl ds) i (pairL o0 o1 [(xs, N)] ((pl ds).take k))))) (fun _ _ q _ => m - (intOf q).toNat)
      case atStart => exact ⟨0, n', P, A', c', os, Nat.zero_le _, rfl, rfl, rfl, hP, HP, hb, HI0⟩
      case round =>
        clear HI HI0 HP hP hb
        obtain ⟨k, n', P, A', c', os, hk, rfl, rfl, rfl, hP, HP, hb, HI⟩ := hrel
        by_cases hlt2 : k < m
        · obtain ⟨b2, off2, rfl⟩ := HB.out.sl.some2 (k := k) (by rw [HB.out.len]; exact hlt2)
          obtain ⟨y, hy⟩ : ∃ y, ds[k]? = some y := ⟨_, List.getElem?_eq_getElem (by rw [HB.out.len]; exact hlt2)⟩
          obtain ⟨hblt2, e0, e1⟩ := HB.out.sl.cell2 hy
          have Hblt2 := Lib.hid hblt2
          have He0 := Lib.hid e0
          have He1 := Lib.hid e1
          have Hyw := Lib.hid (HB.out.each y (List.mem_of_getElem? hy))
          have Hym := Lib.hid (pl_mem (List.mem_of_getElem? hy))
          have Htk2 := Lib.hid (pairL1_take (i := o0) (j := o1) (x := (xs, N)) (pl_at hy))
          clear hblt2 e0 e1 hy
          obtain ⟨⟨yA, yn, yc, ys⟩, M⟩ := y
          have hgo2 : (k : Int) < m := by omega
          obtain ⟨q0, q1, q2, q3, q4, q5, q6, q7, q8⟩ := (HQ.out.below hb.out Hl.out).all
          try simp only at q0 q1 q2 q3 q4 q5 q6 q7 q8
          have lq : w.heap.size < wr.heap.size := Nat.lt_of_lt_of_le Hl.out hb.out.size
          have d0 := (hb.out.cell (p := ⟨b, off + i * 2, none⟩) Hblt.out).trans Hc0.out
          have d2 := (hb.out.cell (p := ⟨b2, off2 + k * 2, none⟩) Hblt2.out).trans He0.out
          have l0 : b < wr.heap.size := Nat.lt_of_lt_of_le Hblt.out hb.out.size
          have l2 : b2 < wr.heap.size := Nat.lt_of_lt_of_le Hblt2.out hb.out.size
          try simp only at d0 d2
          have Hxi := Lib.hid (Hxw.out.after hb.out)
          have Hyi := Lib.hid (Hyw.out.after hb.out)
          obtain ⟨G, hG⟩ : ∃ G, meetB o0 o1 xs ys = G := ⟨_, rfl⟩
          have HG := Lib.hid hG
          clear hG
          have HC : Hid (Below wr.heap.size wr wr) := Lib.hid (Below.refl _ _)
          have HS : Hid (∀ w' : World, Below wr.heap.size wr w' → (w'.cell? ⟨w.heap.size, 0, none⟩ = some (.string nm) ∧ w'.cell? ⟨w.heap.size, 1, none⟩ = some (.string fr) ∧ w'.cell? ⟨w.heap.size, 2, none⟩ = some (.string wt) ∧ w'.cell? ⟨w.heap.size, 3, none⟩ = some (.int .i64 o0) ∧ w'.cell? ⟨w.heap.size, 4, none⟩ = some (.int .i64 o1) ∧ w'.cell? ⟨w.heap.size, 5, none⟩ = some (.slice eA en ec) ∧ w'.cell? ⟨w.heap.size, 6, none⟩ = some (.slice pA pn pc) ∧ w'.cell? ⟨w.heap.size, 7, none⟩ = some (.bool gr) ∧ w'.cell? ⟨w.heap.size, 8, none⟩ = some (.slice aA an ac)) ∧ w'.cell? ⟨b, off + i * 2, none⟩ = some (.slice xA xn xc) ∧ w'.cell? ⟨b2, off2 + k * 2, none⟩ = some (.slice yA yn yc)) := Lib.hid fun w' h => ⟨⟨(h.cell lq).trans q0, (h.cell lq).trans q1, (h.cell lq).trans q2, (h.cell lq).trans q3, (h.cell lq).trans q4, (h.cell lq).trans q5, (h.cell lq).trans q6, (h.cell lq).trans q7, (h.cell lq).trans q8⟩, (h.cell l0).trans d0, (h.cell l2).trans d2⟩
          clear q0 q1 q2 q3 q4 q5 q6 q7 q8
          go_wp2_with fail
          go_region_held3 (fun w' => (w'.cell? ⟨w.heap.size, 0, none⟩ = some (.string nm) ∧ w'.cell? ⟨w.heap.size, 1, none⟩ = some (.string fr) ∧ w'.cell? ⟨w.heap.size, 2, none⟩ = some (.string wt) ∧ w'.cell? ⟨w.heap.size, 3, none⟩ = some (.int .i64 o0) ∧ w'.cell? ⟨w.heap.size, 4, none⟩ = some (.int .i64 o1) ∧ w'.cell? ⟨w.heap.size, 5, none⟩ = some (.slice eA en ec) ∧ w'.cell? ⟨w.heap.size, 6, none⟩ = some (.slice pA pn pc) ∧ w'.cell? ⟨w.heap.size, 7, none⟩ = some (.bool gr) ∧ w'.cell? ⟨w.heap.size, 8, none⟩ = some (.slice aA an ac)) ∧ w'.cell? ⟨b, off + i * 2, none⟩ = some (.slice xA xn xc) ∧ w'.cell? ⟨b2, off2 + k * 2, none⟩ = some (.slice yA yn yc)) (first | with_reducible exact HS.out _ HC.out | with_reducible exact HS.out _ HC.out.drew | go_keep)
            (first
              | (go_at_call 22
                 refine (rmeets_c (⟨nm, fr, wt, o0, o1, eA, en, ec, ee, pA, pn, pc, ps, gr, aA, an, ac⟩ : Vq) xA yA xn yn xc yc xs ys _ (Hxi.out.hd.after (by first | with_reducible exact HC.out | with_reducible exact HC.out.drew)) (Hyi.out.hd.after (by first | with_reducible exact HC.out | with_reducible exact HC.out.drew))).mono ?_
                 rintro en wx ⟨rfl, hbx⟩
                 replace HC : Hid (Below wr.heap.size wr wx) := Lib.hid (by first | exact below_via HC.out hbx | exact below_via HC.out (below_via (Below.refl _ _).drew hbx))
                 rw [show meetB ((⟨nm, fr, wt, o0, o1, eA, en, ec, ee, pA, pn, pc, ps, gr, aA, an, ac⟩ : Vq) : Vq).on0 ((⟨nm, fr, wt, o0, o1, eA, en, ec, ee, pA, pn, pc, ps, gr, aA, an, ac⟩ : Vq) : Vq).on1 xs ys = G from HG.out]
                 clear hbx))
          all_goals
            clear HS d0 d2 l0 l2 lq
            have Hbx := Lib.hid (hb.out.trans (HC.out.mono hb.out.size))
            have HIx := Lib.hid (HI.out.after HC.out)
            clear HI HC Hxi Hyi
            cases G
            case false =>
              have hL : pairL o0 o1 [(xs, N)] ((pl ds).take (k + 1)) = pairL o0 o1 [(xs, N)] ((pl ds).take k) := by
                have h9 := Htk2.out
                try simp only at h9
                rw [h9, HG.out]
                simp
              have HP2 : Hid (P = (soFar o0 o1 (pl cs) (pl ds) i (pairL o0 o1 [(xs, N)] ((pl ds).take (k + 1)))).length) := Lib.hid (by rw [hL]; exact HP.out)
              have HI2 : Hid (ProI wx A' n' os (soFar o0 o1 (pl cs) (pl ds) i (pairL o0 o1 [(xs, N)] ((pl ds).take (k + 1))))) := Lib.hid (by rw [hL]; exact HIx.out)
              clear hL
              go_wp2
              go_roundw
              case rel => exact ⟨k + 1, n', P, A', c', os, by omega, by go_num, rfl, rfl, hP, HP2, Hbx, HI2⟩
              case measure => simp [intOf]; omega
            case true =>
              have hL : pairL o0 o1 [(xs, N)] ((pl ds).take (k + 1)) = pairL o0 o1 [(xs, N)] ((pl ds).take k) ++ [(xs ++ ys, N * M)] := by
                have h9 := Htk2.out
                try simp only at h9
                rw [h9, HG.out]
                simp
              have HLs : Hid (soFar o0 o1 (pl cs) (pl ds) i (pairL o0 o1 [(xs, N)] ((pl ds).take (k + 1))) = soFar o0 o1 (pl cs) (pl ds) i (pairL o0 o1 [(xs, N)] ((pl ds).take k)) ++ [(xs ++ ys, N * M)]) := Lib.hid (by rw [hL]; unfold soFar; rw [List.append_assoc])
              have hP2 : P + 1 ≤ 3660 := by
                have h8 := soFar_len (i := o0) (j := o1) (p := i) (k := k + 1) (x := (xs, N)) HLa.out HLb.out
                rw [HLs.out, List.length_append, ← HP.out] at h8
                exact h8
              have HP2 : Hid (P + 1 = (soFar o0 o1 (pl cs) (pl ds) i (pairL o0 o1 [(xs, N)] ((pl ds).take (k + 1)))).length) := Lib.hid (by rw [HLs.out, List.length_append, ← HP.out]; rfl)
              have hxl : xs.length = xn := Hxw.out.hd.len
              have hyl : ys.length = yn := Hyw.out.hd.len
              have okx := okC_parts (may_okC Hma.out _ Hxm.out)
              have oky := okC_parts (may_okC Hmb.out _ Hym.out)
              simp only at okx oky
              have hx40 : xn ≤ 40 := by have h9 := okx.2.2.2; unfold mayR at h9; rw [Bool.and_eq_true, decide_eq_true_eq] at h9; omega
              have hy40 : yn ≤ 40 := by have h9 := oky.2.2.2; unfold mayR at h9; rw [Bool.and_eq_true, decide_eq_true_eq] at h9; omega
              have hmul : -1000000000000000000 ≤ N * M ∧ N * M ≤ 1000000000000000000 := by
                have h9 : (N * M).natAbs ≤ 1000000000 * 1000000000 := by
                  rw [Int.natAbs_mul]
                  exact Nat.mul_le_mul (by omega) (by omega)
                omega
              have hwr : IntKind.i64.wrap (N * M) = N * M := by rw [IntKind.wrap_i64]; omega
              have hwp : IntKind.i64.wrap ((P : Int) + 1) = ((P + 1 : Nat) : Int) := by rw [IntKind.wrap_i64]; omega
              have Hmul := Lib.hid hmul
              clear hL okx oky hmul hxl hyl
              have d0 := (Hbx.out.cell (p := ⟨b, off + i * 2, none⟩) Hblt.out).trans Hc0.out
              have d2 := (Hbx.out.cell (p := ⟨b2, off2 + k * 2, none⟩) Hblt2.out).trans He0.out
              have l0 : b < wx.heap.size := Nat.lt_of_lt_of_le Hblt.out Hbx.out.size
              have l2 : b2 < wx.heap.size := Nat.lt_of_lt_of_le Hblt2.out Hbx.out.size
              try simp only at d0 d2
              have Hxi := Lib.hid (Hxw.out.after Hbx.out)
              have Hyi := Lib.hid (Hyw.out.after Hbx.out)
              have HC : Hid (Below wx.heap.size wx wx) := Lib.hid (Below.refl _ _)
              have HS : Hid (∀ w' : World, Below wx.heap.size wx w' → w'.cell? ⟨b, off + i * 2, none⟩ = some (.slice xA xn xc) ∧ w'.cell? ⟨b2, off2 + k * 2, none⟩ = some (.slice yA yn yc)) := Lib.hid fun w' h => ⟨(h.cell l0).trans d0, (h.cell l2).trans d2⟩
              go_wp2_with fail
              go_region_held3 (fun w' => w'.cell? ⟨b, off + i * 2, none⟩ = some (.slice xA xn xc) ∧ w'.cell? ⟨b2, off2 + k * 2, none⟩ = some (.slice yA yn yc)) (first | with_reducible exact HS.out _ HC.out | with_reducible exact HS.out _ HC.out.drew | go_keep)
                (first
                  | (go_at_call 23
                     refine (rjoin4_c xA yA xn yn xc yc xs ys _ (Hxi.out.hd.after (by first | with_reducible exact HC.out | with_reducible exact HC.out.drew)) (Hyi.out.hd.after (by first | with_reducible exact HC.out | with_reducible exact HC.out.drew)) (by omega)).mono ?_
                     rintro en wj ⟨vj, rfl, hbx, hoj⟩
                     replace HC : Hid (Below wx.heap.size wx wj) := Lib.hid (by first | exact below_via HC.out hbx | exact below_via HC.out (below_via (Below.refl _ _).drew hbx))
                     obtain ⟨⟨hA9, hn9, hc9, hs9⟩, hvj, hInj, hxsj, _, hrmj⟩ := hoj.hd
                     simp only [Hd.v] at hvj hxsj hrmj
                     subst hvj hxsj
                     have HInj := Lib.hid hInj
                     have Hrmj := Lib.hid hrmj
                     clear hbx hoj hInj hrmj))
              all_goals
                clear HS d0 d2 l0 l2
                replace Hbx := Lib.hid (Hbx.out.trans (HC.out.mono Hbx.out.size))
                replace HIx := Lib.hid (HIx.out.after HC.out)
                clear HC Hxi Hyi
                have d0 := (Hbx.out.cell (p := ⟨b, off + i * 2 + 1, none⟩) Hblt.out).trans Hc1.out
                have d2 := (Hbx.out.cell (p := ⟨b2, off2 + k * 2 + 1, none⟩) Hblt2.out).trans He1.out
                have l0 : b < wj.heap.size := Nat.lt_of_lt_of_le Hblt.out Hbx.out.size
                have l2 : b2 < wj.heap.size := Nat.lt_of_lt_of_le Hblt2.out Hbx.out.size
                try simp only at d0 d2
                have HC : Hid (Below wj.heap.size wj wj) := Lib.hid (Below.refl _ _)
                have HS : Hid (∀ w' : World, Below wj.heap.size wj w' → w'.cell? ⟨b, off + i * 2 + 1, none⟩ = some (.int .i64 N) ∧ w'.cell? ⟨b2, off2 + k * 2 + 1, none⟩ = some (.int .i64 M)) := Lib.hid fun w' h => ⟨(h.cell l0).trans d0, (h.cell l2).trans d2⟩
                go_wp2_with fail
                go_region_held3 (fun w' => w'.cell? ⟨b, off + i * 2 + 1, none⟩ = some (.int .i64 N) ∧ w'.cell? ⟨b2, off2 + k * 2 + 1, none⟩ = some (.int .i64 M)) (first | with_reducible exact HS.out _ HC.out | with_reducible exact HS.out _ HC.out.drew | go_keep) (first | fail)
                all_goals
                  clear HS d0 d2 l0 l2 HC
                  have Hbd := Lib.hid Hbx.out.drew
                  have HId := Lib.hid (HIx.out.after (Below.refl _ _).drew)
                  have HInd := Lib.hid (HInj.out.after (Below.refl _ _).drew)
                  have hPg : ¬ ((P + 1 : Nat) : Int) > 10000 := by omega
                  have hPg2 : ((P + 1 : Nat) : Int) ≤ 10000 := by omega
                  by_cases h40 : 40 < hn9
                  case pos =>
                    have HF : Hid (∀ w', Below W.heap.size W w' → ErrSaid w none 0 [] 100 R w') := Lib.hid fun w' h => ⟨Hb0.out.trans (h.mono Hb0.out.size), bgIn_nil _, by
                      rw [← HR.out, HE.out, pair_bad Hxm.out Hym.out HG.out Hma.out Hmb.out (fun h9 => by
                        have h1 := HInj.out.len
                        have h2 := h9.1
                        try simp only at h1 h2
                        omega)]
                      exact ⟨rfl, rfl⟩⟩
                    have h41 : (40 : Int) < hn9 := by omega
                    go_wp2
                    go_ret2
                    exact ⟨_, _, _, _, _, rfl, HF.out _ (by first | with_reducible exact Hbd.out | with_reducible exact Hbx.out)⟩
                  case neg =>
                    have h41 : ¬ (40 : Int) < hn9 := by omega
                    go_wp2_with fail
                    refine (fits5_c (N * M) _).mono ?_
                    rintro e wf ⟨rfl, hbf⟩
                    have Hbf : Hid (Below W.heap.size W wf) := Lib.hid (by first | exact below_via Hbd.out hbf | exact below_via Hbx.out hbf)
                    have HIf : Hid (ProI wf A' n' os (soFar o0 o1 (pl cs) (pl ds) i (pairL o0 o1 [(xs, N)] ((pl ds).take k)))) := Lib.hid (by first | exact HId.out.after hbf | exact HIx.out.after hbf)
                    have HInf : Hid (Hd.In wf ⟨hA9, hn9, hc9, xs ++ ys⟩) := Lib.hid (by first | exact HInd.out.after hbf | exact HInj.out.after hbf)
                    clear hbf Hbd Hbx HId HIx HInd
                    cases hft : (decide (-1000000000 ≤ N * M) && decide (N * M ≤ 1000000000))
                    case false =>
                      have HF : Hid (ErrSaid w none 0 [] 100 R wf) := Lib.hid ⟨Hb0.out.trans (Hbf.out.mono Hb0.out.size), bgIn_nil _, by
                        rw [← HR.out, HE.out, pair_bad Hxm.out Hym.out HG.out Hma.out Hmb.out (fun h9 => by
                          have h2 := h9.2
                          unfold fitQ at h2
                          try simp only at h2
                          rw [hft] at h2
                          cases h2)]
                        exact ⟨rfl, rfl⟩⟩
                      clear hft
                      go_wp2
                      go_ret2
                      exact ⟨_, _, _, _, _, rfl, HF.out⟩
                    case true =>
                      have HFt := Lib.hid hft
                      clear hft
                      have HCt : Hid (Ct.In wf ⟨⟨hA9, hn9, hc9, xs ++ ys⟩, N * M⟩) := Lib.hid ⟨HInf.out, fun v hv => by
                          rcases List.mem_append.1 hv with hv | hv
                          · exact Hxw.out.sz v hv
                          · exact Hyw.out.sz v hv, fun v hv => by
                          rcases List.mem_append.1 hv with hv | hv
                          · exact Hxw.out.n64 v hv
                          · exact Hyw.out.n64 v hv, by have := Hmul.out; constructor <;> simp only <;> omega, Hrmj.out⟩
                      have Has : Hid (Asc (pl os)) := Lib.hid (by rw [HIf.out.said]; exact asc_both _ _ List.Pairwise.nil)
                      have hn5 : n' ≤ 100000 := by have h1 := HIf.out.le; rw [← HP.out] at h1; omega
                      have H64 : Hid (∀ z ∈ os, -9223372036854775808 ≤ N * M + z.N ∧ N * M + z.N ≤ 9223372036854775807) := Lib.hid fun z hz => by
                        have h1 := bd_fold HIf.out.each (by rw [← HP.out]; omega) (z.h.xs, z.N) (by rw [← HIf.out.said]; exact pl_mem hz)
                        have h2 := Hmul.out
                        try simp only at h1
                        omega
                      go_wp2_with fail
                      refine (radd_c A' n' c' os ⟨hA9, hn9, hc9, xs ++ ys⟩ (N * M) _ HIf.out.bag HCt.out Has.out hn5 H64.out).mono ?_
                      rintro en w5 ⟨A5, n5, c5, os5, rfl, hb5, hI5, he5⟩
                      have Hb5 := Lib.hid (below_via Hbf.out hb5)
                      have HI5 : Hid (ProI w5 A5 n5 os5 (soFar o0 o1 (pl cs) (pl ds) i (pairL o0 o1 [(xs, N)] ((pl ds).take (k + 1))))) := Lib.hid ⟨hI5, by
                          rw [he5, HLs.out, HIf.out.said]
                          unfold bothB
                          rw [List.foldl_append]
                          rfl, fun r hr => by
                          rw [HLs.out] at hr
                          rcases List.mem_append.1 hr with hr | hr
                          · exact HIf.out.each r hr
                          · rw [List.mem_singleton] at hr
                            subst hr
                            refine ⟨?_, HFt.out⟩
                            have h1 := HInf.out.len
                            try simp only at h1 ⊢
                            omega⟩
                      clear hb5 hI5 he5
                      go_wp2
                      go_roundw
                      case rel => exact ⟨k + 1, n5, P + 1, A5, c5, os5, by omega, by go_num, rfl, rfl, hP2, HP2, Hb5, HI5⟩
                      case measure => simp [intOf]; omega
        · obtain rfl : k = m := by omega
          have hL : soFar o0 o1 (pl cs) (pl ds) i (pairL o0 o1 [(xs, N)] ((pl ds).take k)) = soFar o0 o1 (pl cs) (pl ds) (i + 1) [] := by
            unfold soFar
            have h9 := Htk.out
            try simp only at h9
            rw [h9, List.append_nil, show (pl ds).take k = pl ds from List.take_of_length_le (by rw [pl_len, HB.out.len]; exact Nat.le_refl _)]
          have HP2 : Hid (P = (soFar o0 o1 (pl cs) (pl ds) (i + 1) []).length) := Lib.hid (by rw [← hL]; exact HP.out)
          have HI2 : Hid (ProI wr A' n' os (soFar o0 o1 (pl cs) (pl ds) (i + 1) [])) := Lib.hid (by rw [← hL]; exact HI.out)
          clear hL HP HI
          go_wp2
          go_roundw
          case rel => exact ⟨i + 1, n', P, A', c', os, by omega, by go_num, rfl, rfl, hP, HP2, hb, HI2⟩
          case measure => simp [intOf]; omega
    · obtain rfl : i = n := by omega
      have hL : soFar o0 o1 (pl cs) (pl ds) i [] = pairL o0 o1 (pl cs) (pl ds) := by
        unfold soFar
        rw [List.append_nil, List.take_of_length_le (by rw [pl_len, HA.out.len]; exact Nat.le_refl _)]
      have hsd := HI.out.said
      have hec := HI.out.each
      rw [hL] at hsd hec
      have hpg := pair_good Hma.out Hmb.out HLa.out HLb.out hec
      have HRr : Hid (R = if mayBag (pl os) then some (pl os) else none) := Lib.hid (by rw [← HR.out, HE.out, hpg, hsd])
      have HBg := Lib.hid HI.out.bag
      clear hL hsd hec hpg HI HP
      go_wp2_with fail
      refine (rmayBag_c A' n' c' os _ HBg.out).mono ?_
      rintro e w9 ⟨rfl, hb9⟩
      have HB9 := Lib.hid (HBg.out.after hb9)
      have HF9 := Lib.hid (Hb0.out.trans ((below_via hb.out hb9).mono Hb0.out.size))
      clear hb9
      cases hmo : mayBag (pl os)
      case false =>
        have HF : Hid (ErrSaid w none 0 [] 100 R w9) := Lib.hid ⟨HF9.out, bgIn_nil _, by rw [HRr.out, hmo]; exact ⟨rfl, rfl⟩⟩
        clear hmo
        go_wp2
        go_ret2
        exact ⟨_, _, _, _, _, rfl, HF.out⟩
      case true =>
        have HF : Hid (ErrSaid w A' n' os 0 R w9) := Lib.hid ⟨HF9.out, HB9.out, by rw [HRr.out, hmo]; exact ⟨rfl, rfl⟩⟩
        clear hmo
        go_wp2
        go_ret2
        exact ⟨_, _, _, _, _, rfl, HF.out⟩
end Go.Proofs.YtbpopkgpepmlcaaGreat
