/-
  The law ExprParts, walked: of any two expressions, step and row it answers true, and turns nothing that was there, if the document's Eval answers as the program's.
-/
import Derived.Test.YticofedglhfdpaaGreatDoorPartsQ
import Derived.Test.YticofedglhfdpaaGreatDoorBigO
import Derived.Test.YticofedglhfdpaaGreatDoorAppB
import Derived.Deep.RegionHeld3
namespace Go.Proofs.YticofedglhfdpaaGreatDoor
open Go Go.RowKit
set_option maxRecDepth 100000
attribute [local go_sem ↓] Go.wp_at_zero Go.wp_at_succ
attribute [local go_sem ↓] run_eqV run_neV

def ndRd (x : Nd) : List Value := x.cells.toList
theorem ndOk : ElOk Tryz.prog 23 36 5 48 (Nd.w ⟨0, 0, nl⟩) ndRd where
  under := Tryz.underlying23
  info := by kernel_rfl
  zs := rfl
  pos := by decide
  len := fun _ => rfl
  one := fun x u hu => by
    simp [ndRd, Nd.cells] at hu
    rcases hu with rfl | rfl | rfl | rfl | rfl <;> rfl
theorem SlG.slN {w : World} {A : Option Addr} {e : List Nd} (h : SlG w A 5 ndRd e) : SlN w A e := by
  rcases h with h | ⟨b, off, hA, hlt, h⟩
  · exact .inl h
  · exact .inr ⟨b, off, hA, hlt, fun i x hx => ⟨h i x hx 0 _ rfl, h i x hx 1 _ rfl, h i x hx 2 _ rfl, h i x hx 3 _ rfl, h i x hx 4 _ rfl⟩⟩
abbrev OwnN (w : World) (B : Nat) (v : Value) (e : List Nd) : Prop := OwnG w B 36 5 ndRd v e
theorem SlN.slG {w : World} {A : Option Addr} {e : List Nd} (h : SlN w A e) : SlG w A 5 ndRd e := by
  rcases h with h | ⟨b, off, hA, hlt, h⟩
  · exact .inl h
  · refine .inr ⟨b, off, hA, hlt, fun i x hx j u hu => ?_⟩
    obtain ⟨h0, h1, h2, h3, h4⟩ := h i x hx
    match j, hu with
    | 0, hu => simp [ndRd, Nd.cells] at hu; subst hu; exact h0
    | 1, hu => simp [ndRd, Nd.cells] at hu; subst hu; exact h1
    | 2, hu => simp [ndRd, Nd.cells] at hu; subst hu; exact h2
    | 3, hu => simp [ndRd, Nd.cells] at hu; subst hu; exact h3
    | 4, hu => simp [ndRd, Nd.cells] at hu; subst hu; exact h4
    | j + 5, hu => simp [ndRd, Nd.cells] at hu
/-- An expression that came in. -/
structure ExIn (w : World) (A : Option Addr) (n : Nat) (e : List Nd) : Prop where
  len : e.length = n
  max : n ≤ maxLen
  sl : SlN w A e
  sz : ∀ x ∈ e, x.v.s.size ≤ maxLen
  n64 : ∀ x ∈ e, N64 x.v.n
theorem ExIn.after {w w' : World} {A : Option Addr} {n : Nat} {e : List Nd} (h : ExIn w A n e) (hb : Below w.heap.size w w') : ExIn w' A n e := ⟨h.len, h.max, h.sl.after hb, h.sz, h.n64⟩
theorem below_via {w a b : World} (h : Below w.heap.size w a) (g : Below a.heap.size a b) : Below w.heap.size w b := h.trans (g.mono h.size)
theorem below_al {w a : World} (h : Below w.heap.size w a) (o : Obj) : Below w.heap.size w (a.alloc o) := h.alloc h.size o

theorem SlG.newAt {α : Type} {rd : α → List Value} {S : Nat} {w : World} {cs : Array Value} {E : TypeId} {b : Nat} (hb : w.heap.size = b) (hl : ∀ x, (rd x).length = S) (xs : List α) (h : cs = (xs.flatMap rd).toArray) : SlG (w.alloc (.cells cs E)) (some ⟨b, 0, none⟩) S rd xs := by
  subst hb
  exact SlG.new hl xs h
theorem SlG.slV {w : World} {A : Option Addr} {xs : List Val} (h : SlG w A 3 valRd xs) : Sl w A xs := by
  rcases h with h | ⟨b, off, hA, hlt, h⟩
  · exact .inl h
  · exact .inr ⟨b, off, hA, hlt, fun i x hx => ⟨h i x hx 0 _ rfl, h i x hx 1 _ rfl, h i x hx 2 _ rfl⟩⟩
/-- What the document's Eval answers. -/
def RevalOk : Prop := ∀ (A A2 : Option Addr) (n c m c2 : Nat) (e : List Nd) (row : List Val) (w : World), e.length = n → SlN w A e → n ≤ maxLen → row.length = m → m ≤ maxLen → Sl w A2 row → (∀ x ∈ e, x.v.s.size ≤ maxLen) → (∀ v ∈ row, N64 v.n) → (∀ x ∈ e, N64 x.v.n) →
    Calls Tryz.prog 7 #[.slice A n c, .slice A2 m c2] w fun en w' => en = .returned (.tuple #[(evalR e row).1.v, .int .i64 (evalR e row).2]) ∧ Below w.heap.size w w'

set_option maxHeartbeats 4000000 in
theorem parts_c (hRev : RevalOk) (A B C : Option Addr) (n c m d q r : Nat) (a b : List Nd) (op : Int) (row : List Val) (w : World) (ha : ExIn w A n a) (hb : ExIn w B m b) (hop : N64 op) (hrl : row.length = q) (hrm : q ≤ maxLen) (hrs : Sl w C row) (hr64 : ∀ v ∈ row, N64 v.n) (hw : Wd w) :
    Calls Tryz.prog 3 #[.agg #[.slice A n c, .slice B m d, .int .i64 op, .slice C q r]] w fun en w' => en = .returned (.bool true) ∧ Below w.heap.size w w' := by
  have HR := Lib.hid hRev
  have Ha0 := Lib.hid ha
  have Hb0 := Lib.hid hb
  have Hrl := Lib.hid hrl
  have Hrm := Lib.hid hrm
  have Hrs0 := Lib.hid hrs
  have Hr64 := Lib.hid hr64
  have Hw0 := Lib.hid hw
  have Hop := Lib.hid hop
  clear hRev ha hb hrl hrm hrs hr64 hw hop
  go_enter Tryz.func3, Tryz.ntmps3
  go_wp2_with fail
  obtain ⟨W0, hW0, HW, hlz, z0, z1, z2, z3⟩ : ∃ W0, w.alloc (.cells #[.slice A n c, .slice B m d, .int .i64 op, .slice C q r] 27) = W0 ∧ Hid (Below w.heap.size w W0) ∧ w.heap.size < W0.heap.size ∧ W0.cell? ⟨w.heap.size, 0, none⟩ = some (.slice A n c) ∧ W0.cell? ⟨w.heap.size, 1, none⟩ = some (.slice B m d) ∧ W0.cell? ⟨w.heap.size, 2, none⟩ = some (.int .i64 op) ∧ W0.cell? ⟨w.heap.size, 3, none⟩ = some (.slice C q r) := ⟨_, rfl, Lib.hid (below_one _ _), by simp, by simp, by simp, by simp, by simp⟩
  rw [hW0]
  clear hW0
  have Ha := Lib.hid (Ha0.out.after HW.out)
  have Hb := Lib.hid (Hb0.out.after HW.out)
  have Hrs := Lib.hid (Hrs0.out.after HW.out)
  have Hw := Lib.hid (Hw0.out.after HW.out)
  clear Ha0 Hb0 Hrs0 Hw0
  obtain ⟨gz, hgz⟩ : ∃ gz, w.heap.size = gz := ⟨_, rfl⟩
  rw [hgz] at hlz z0 z1 z2 z3 ⊢
  clear hgz
  go_region_held3 (fun w' => w'.cell? ⟨gz, 0, none⟩ = some (.slice A n c) ∧ w'.cell? ⟨gz, 1, none⟩ = some (.slice B m d) ∧ w'.cell? ⟨gz, 2, none⟩ = some (.int .i64 op) ∧ w'.cell? ⟨gz, 3, none⟩ = some (.slice C q r)) (go_keep) (first | fail)
  have Hd0 : Hid (Below W0.heap.size W0 W0.drew) := Lib.hid (Below.refl _ _).drew
  clear z0 z1 z2 z3 hlz
  go_wp2_with fail
  refine (fixed_c _ (Hw.out.after Hd0.out)).mono ?_
  rintro en w1 ⟨rfl, hb1⟩
  have H1 := Lib.hid (below_via Hd0.out hb1)
  clear hb1 Hd0
  go_wp2_with fail
  refine (big_c A n c a w1 Ha.out.len Ha.out.max (Ha.out.after H1.out).sl Ha.out.sz).mono ?_
  rintro en w2 ⟨rfl, rfl⟩
  cases hba : bigB a
  case true =>
    go_wp2_with fail
    refine (fixed_c _ (Hw.out.after H1.out)).mono ?_
    rintro en w9 ⟨rfl, hb9⟩
    have Hb9 := Lib.hid (HW.out.trans ((below_via H1.out hb9).mono HW.out.size))
    clear hb9
    go_wp2
    go_ret
    exact ⟨rfl, Hb9.out⟩
  clear hba
  go_wp2_with fail
  refine (big_c B m d b _ Hb.out.len Hb.out.max (Hb.out.after H1.out).sl Hb.out.sz).mono ?_
  rintro en w2 ⟨rfl, rfl⟩
  cases hbb : bigB b
  case true =>
    go_wp2_with fail
    refine (fixed_c _ (Hw.out.after H1.out)).mono ?_
    rintro en w9 ⟨rfl, hb9⟩
    have Hb9 := Lib.hid (HW.out.trans ((below_via H1.out hb9).mono HW.out.size))
    clear hb9
    go_wp2
    go_ret
    exact ⟨rfl, Hb9.out⟩
  clear hbb
  have hmx1 : n ≤ 9223372036854775807 := Ha.out.max
  have hmx2 : m ≤ 9223372036854775807 := Hb.out.max
  have hmx3 : q ≤ 9223372036854775807 := Hrm.out
  by_cases h1 : 40 < n
  case pos =>
    go_wp2_with fail
    refine (fixed_c _ (Hw.out.after H1.out)).mono ?_
    rintro en w9 ⟨rfl, hb9⟩
    have Hb9 := Lib.hid (HW.out.trans ((below_via H1.out hb9).mono HW.out.size))
    clear hb9
    go_wp2
    go_ret
    exact ⟨rfl, Hb9.out⟩
  by_cases h2 : 40 < m
  case pos =>
    go_wp2_with fail
    refine (fixed_c _ (Hw.out.after H1.out)).mono ?_
    rintro en w9 ⟨rfl, hb9⟩
    have Hb9 := Lib.hid (HW.out.trans ((below_via H1.out hb9).mono HW.out.size))
    clear hb9
    go_wp2
    go_ret
    exact ⟨rfl, Hb9.out⟩
  by_cases h3 : op < 2
  case pos =>
    go_wp2_with fail
    refine (fixed_c _ (Hw.out.after H1.out)).mono ?_
    rintro en w9 ⟨rfl, hb9⟩
    have Hb9 := Lib.hid (HW.out.trans ((below_via H1.out hb9).mono HW.out.size))
    clear hb9
    go_wp2
    go_ret
    exact ⟨rfl, Hb9.out⟩
  by_cases h4 : 8 < op
  case pos =>
    go_wp2_with fail
    refine (fixed_c _ (Hw.out.after H1.out)).mono ?_
    rintro en w9 ⟨rfl, hb9⟩
    have Hb9 := Lib.hid (HW.out.trans ((below_via H1.out hb9).mono HW.out.size))
    clear hb9
    go_wp2
    go_ret
    exact ⟨rfl, Hb9.out⟩
  by_cases h5 : 40 < q
  case pos =>
    go_wp2_with fail
    refine (fixed_c _ (Hw.out.after H1.out)).mono ?_
    rintro en w9 ⟨rfl, hb9⟩
    have Hb9 := Lib.hid (HW.out.trans ((below_via H1.out hb9).mono HW.out.size))
    clear hb9
    go_wp2
    go_ret
    exact ⟨rfl, Hb9.out⟩
  have hn40 : n ≤ 40 := by omega
  have hm40 : m ≤ 40 := by omega
  have hq40 : q ≤ 40 := by omega
  have hop2 : 2 ≤ op ∧ op ≤ 8 := by omega
  go_wp2_with fail
  refine (eval_c A C n c q r a row _ Ha.out.len (Ha.out.after H1.out).sl Ha.out.max Hrl.out (Hrs.out.after H1.out) Ha.out.sz).mono ?_
  rintro en w3 ⟨rfl, hb3⟩
  obtain ⟨⟨x, f⟩, hf⟩ : ∃ z, evalR a row = z := ⟨_, rfl⟩
  rw [hf]
  have Hf := Lib.hid hf
  have H3 := Lib.hid (below_al (below_via H1.out hb3) (.cells #[.int .i64 x.k, .int .i64 x.n, .string x.s] 31))
  have Hx := Lib.hid (Bx.new w3 x)
  clear hf hb3 H1
  go_wp2_with fail
  generalize w3.alloc (.cells #[.int .i64 x.k, .int .i64 x.n, .string x.s] 31) = w4 at Hx H3 ⊢
  generalize w3.heap.size = gx at Hx ⊢
  refine (eval_c B C m d q r b row _ Hb.out.len (Hb.out.after H3.out).sl Hb.out.max Hrl.out (Hrs.out.after H3.out) Hb.out.sz).mono ?_
  rintro en w5 ⟨rfl, hb5⟩
  obtain ⟨⟨y, g⟩, hg⟩ : ∃ z, evalR b row = z := ⟨_, rfl⟩
  rw [hg]
  have Hg := Lib.hid hg
  have H5 := Lib.hid (below_al (below_via H3.out hb5) (.cells #[.int .i64 y.k, .int .i64 y.n, .string y.s] 31))
  have Hx5 := Lib.hid ((Hx.out.after hb5).alloc (.cells #[.int .i64 y.k, .int .i64 y.n, .string y.s] 31))
  have Hy := Lib.hid (Bx.new w5 y)
  clear hg hb5 H3 Hx
  cases hf30 : f == 30
  case true =>
    have HbF := Lib.hid (HW.out.trans (H5.out.mono HW.out.size))
    go_wp2
    go_ret
    exact ⟨rfl, HbF.out⟩
  cases hg30 : g == 30
  case true =>
    have HbF := Lib.hid (HW.out.trans (H5.out.mono HW.out.size))
    go_wp2
    go_ret
    exact ⟨rfl, HbF.out⟩
  have hf3 : f ≠ 30 := by simpa using hf30
  have hg3 : g ≠ 30 := by simpa using hg30
  have HL := Lib.hid (show ([] : List Nd).length + a.length = n by rw [Ha.out.len]; simp)
  have HL2 := Lib.hid (show a.length + b.length = n + m by rw [Ha.out.len, Hb.out.len])
  have HL3 := Lib.hid (show (a ++ b).length + [opE op].length = n + m + 1 by rw [List.length_append, Ha.out.len, Hb.out.len]; rfl)
  obtain ⟨w6, hw6⟩ : ∃ w6, w5.alloc (.cells #[.int .i64 y.k, .int .i64 y.n, .string y.s] 31) = w6 := ⟨_, rfl⟩
  obtain ⟨gy, hgy⟩ : ∃ gy, w5.heap.size = gy := ⟨_, rfl⟩
  rw [hw6] at Hx5 Hy H5
  rw [hgy] at Hy
  have HSZ := Lib.hid (show w5.heap.size + 1 = w6.heap.size by rw [← hw6]; simp)
  have HW6 := Lib.hid hw6
  have HGY := Lib.hid hgy
  clear hw6 hgy
  go_wp2_with (at_builtin; go_must (first
    | (rw [HSZ.out, HW6.out, HGY.out]
       refine wpList_appG ndOk rfl (.tmp 76) (.tmp 77) rfl w6.heap.size _ ([] : List Nd) a A n c rfl (OwnG.made w6 w6.heap.size _ #[] 0 (Nat.le_refl _) (Nat.zero_le _) rfl) rfl Ha.out.len ((Ha.out.after H5.out).sl.slG.alloc _) (by rw [HL.out]; unfold maxLen; omega) (by rw [HL.out]; omega) (by simp) ?_
       intro v1 w7 hv1 hg1
       rw [List.nil_append] at hv1
       have H7 := Lib.hid ((below_one w6 (.cells #[] 36)).grown hg1 (by simp) (fun k hk => by cases hk; exact Nat.le_refl _))
       have Hv1 := Lib.hid hv1
       clear hv1 hg1)
    | (refine wpList_appG ndOk rfl (.tmp 78) (.tmp 79) rfl w6.heap.size _ a b B m d rfl Hv1.out rfl Hb.out.len ((Hb.out.after (below_via H5.out H7.out)).sl.slG) (by rw [HL2.out]; unfold maxLen; omega) (by rw [HL2.out]; omega) H7.out.size ?_
       intro v2 w8 hv2 hg2
       have H8 := Lib.hid (H7.out.grown hg2 H7.out.size (fun k hk => (Hv1.out.lt k hk).1))
       have Hv2 := Lib.hid hv2
       clear hv2 hg2)
    | (refine wpList_appG ndOk rfl (.tmp 80) (.tmp 83) rfl w6.heap.size _ (a ++ b) [opE op] (some ⟨w8.heap.size, 0, none⟩) 1 1 rfl (Hv2.out.alloc _) rfl rfl (SlG.new ndOk.len [opE op] rfl) (by rw [HL3.out]; unfold maxLen; omega) (by rw [HL3.out]; omega) (by have := H8.out.size; simp; omega) ?_
       intro v3 w9 hv3 hg3
       have H9 := Lib.hid ((H8.out.alloc H8.out.size _).grown hg3 (by have := H8.out.size; simp; omega) (fun k hk => (Hv2.out.lt k hk).1))
       obtain ⟨A9, c9, rfl, _, _, hs9⟩ := hv3.sl ndOk.len
       rw [List.length_append, HL3.out]
       have Hs9 := Lib.hid hs9.slN
       clear hv3 hg3 hs9)))
  have H9' := Lib.hid (below_via H5.out H9.out)
  have Hlen : Hid ((a ++ b ++ [opE op]).length = n + m + 1) := Lib.hid (by rw [List.length_append, HL3.out])
  have Hsz : Hid (∀ z ∈ a ++ b ++ [opE op], z.v.s.size ≤ maxLen) := Lib.hid fun z hz => by
    rcases List.mem_append.1 hz with hz | hz
    · rcases List.mem_append.1 hz with hz | hz
      · exact Ha.out.sz z hz
      · exact Hb.out.sz z hz
    · rw [List.mem_singleton] at hz
      rw [hz]
      exact Nat.zero_le _
  refine (eval_c A9 C (n + m + 1) c9 q r (a ++ b ++ [opE op]) row _ Hlen.out Hs9.out (by unfold maxLen; omega) Hrl.out (Hrs.out.after H9'.out) Hsz.out).mono ?_
  rintro en w10 ⟨rfl, hb10⟩
  obtain ⟨⟨v, h⟩, hh⟩ : ∃ z, evalR (a ++ b ++ [opE op]) row = z := ⟨_, rfl⟩
  rw [hh]
  rw [List.append_assoc] at hh
  have Hh := Lib.hid hh
  have H10 := Lib.hid (below_al (below_via H9'.out hb10) (.cells #[.int .i64 v.k, .int .i64 v.n, .string v.s] 31))
  have Hx10 := Lib.hid ((Hx5.out.after H9.out).after hb10)
  have Hy10 := Lib.hid ((Hy.out.after H9.out).after hb10)
  clear hh hb10 H9 H9' Hx5 Hy Hs9 H8 H7 Hv1 Hv2 Hlen Hsz HL HL2 HL3
  have ea : (evalR a row).2 = f := by rw [Hf.out]
  have eb : (evalR b row).2 = g := by rw [Hg.out]
  have la : a.length ≤ 40 := by rw [Ha.out.len]; exact hn40
  have lb : b.length ≤ 40 := by rw [Hb.out.len]; exact hm40
  have EA := Lib.hid ea
  have EB := Lib.hid eb
  have LA := Lib.hid la
  have LB := Lib.hid lb
  clear ea eb la lb
  cases hf0 : f != 0
  case true =>
    have hvh : h = f := by
      have h1 := parts_f a b row op LA.out LB.out (by rw [EA.out]; simpa using hf0) (by rw [EA.out]; exact hf3)
      rw [Hh.out, EA.out] at h1
      exact (Prod.mk.injEq _ _ _ _ ▸ h1).2
    subst hvh
    have hgen : (h == h) = true := by simp
    have HbF := Lib.hid (HW.out.trans (H10.out.mono HW.out.size))
    go_wp2
    go_ret
    exact ⟨rfl, HbF.out⟩
  have hf0' : f = 0 := by simpa using hf0
  subst hf0'
  clear hf0 hf30 hf3
  cases hg0 : g != 0
  case true =>
    have hvh : h = g := by
      have h1 := parts_g a b row op LA.out LB.out EA.out (by rw [EB.out]; simpa using hg0) (by rw [EB.out]; exact hg3)
      rw [Hh.out, EB.out] at h1
      exact (Prod.mk.injEq _ _ _ _ ▸ h1).2
    subst hvh
    have HbF := Lib.hid (HW.out.trans (H10.out.mono HW.out.size))
    go_wp2
    go_ret
    exact ⟨rfl, HbF.out⟩
  have hg0' : g = 0 := by simpa using hg0
  subst hg0'
  clear hg0 hg30 hg3
  have hres : opR op [x, y] = (v, h) := by
    have h1 := parts_ok a b row op hop2 LA.out LB.out EA.out EB.out
    rw [Hh.out, Hf.out, Hg.out] at h1
    exact h1.symm
  have hx64 : N64 x.n := by have := eval_64 a row Hr64.out Ha.out.n64 (by have := LA.out; omega); rw [Hf.out] at this; exact this
  have hy64 : N64 y.n := by have := eval_64 b row Hr64.out Hb.out.n64 (by have := LB.out; omega); rw [Hg.out] at this; exact this
  have href : evalR [colE 0, colE 1, opE op] [x, y] = (v, h) := (parts_ref x y op hop2).trans hres
  have Href := Lib.hid href
  have HX64 := Lib.hid hx64
  have HY64 := Lib.hid hy64
  clear hres hx64 hy64 href EA EB LA LB Hh Hf Hg
  have x0 := Hx10.out.cell0
  have x1 := Hx10.out.cell1
  have x2 := Hx10.out.cell2
  have xl := Hx10.out.lt
  have y0 := Hy10.out.cell0
  have y1 := Hy10.out.cell1
  have y2 := Hy10.out.cell2
  have yl := Hy10.out.lt
  go_wp2_with fail
  refine (HR.out (some ⟨w10.heap.size + 1, 0, none⟩) (some ⟨w10.heap.size + 1 + 1, 0, none⟩) 3 3 2 2 [colE 0, colE 1, opE op] [x, y] _ rfl ((SlG.newAt (by simp) ndOk.len [colE 0, colE 1, opE op] rfl).alloc _).slN (by unfold maxLen; omega) rfl (by unfold maxLen; omega) (SlG.newAt (by simp) valOk.len [x, y] rfl).slV (fun z hz => by
    simp only [List.mem_cons, List.not_mem_nil, or_false] at hz
    rcases hz with rfl | rfl | rfl <;> exact Nat.zero_le _) (fun z hz => by
    simp only [List.mem_cons, List.not_mem_nil, or_false] at hz
    rcases hz with rfl | rfl
    · exact HX64.out
    · exact HY64.out) (fun z hz => by
    simp only [List.mem_cons, List.not_mem_nil, or_false] at hz
    rcases hz with rfl | rfl | rfl <;> exact nl_64)).mono ?_
  rintro en w11 ⟨rfl, hb11⟩
  rw [Href.out]
  have H11 := Lib.hid (below_via (below_al (below_al H10.out _) _) hb11)
  have Hv11 := Lib.hid ((((Bx.new w10 v).alloc _).alloc _).after hb11)
  clear hb11 H10 x0 x1 x2 xl y0 y1 y2 yl Hx10 Hy10 Href
  have v0 := Hv11.out.cell0
  have v1 := Hv11.out.cell1
  have v2 := Hv11.out.cell2
  have vl := Hv11.out.lt
  have veq := Val.eq_self v
  have HbF := Lib.hid (HW.out.trans ((below_al H11.out (.cells #[.int .i64 v.k, .int .i64 v.n, .string v.s] 31)).mono HW.out.size))
  generalize w10.heap.size = gv at v0 v1 v2 vl ⊢
  go_wp2
  go_ret
  exact ⟨rfl, HbF.out⟩
end Go.Proofs.YticofedglhfdpaaGreatDoor
