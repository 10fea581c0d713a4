/-
  Rows sorted, as the program does it: of at most 1000 rows, each of at most 100000 values, the answer's rows, in new memory, are those that there were, rising.
-/
import Derived.Test.YtbhliihmipbfjaaDoorSortL
import Derived.Test.YtbhliihmipbfjaaDoorSortP
import Derived.Test.YtbhliihmipbfjaaDoorCmpG
import Derived.Test.YtbhliihmipbfjaaDoorJoin
namespace Go.Proofs.YtbhliihmipbfjaaDoor
open Go Go.RowKit Go.Sort
set_option maxRecDepth 100000

/-- What the program compares two rows by. -/
theorem closure_g (x y : Hd) (W : World) (hx : Hd.In W x) (hy : Hd.In W y) : Calls Tryd.prog 25 #[x.v, y.v] W fun e w' => e = .returned (.int .i64 (cmpL x.xs y.xs)) ∧ Gr W w' := by
  have Hx := Lib.hid hx
  have Hy := Lib.hid hy
  clear hx hy
  go_enter Tryd.func25, Tryd.ntmps25
  go_wp2_with fail
  refine (compareL_g x.A y.A x.n y.n x.c y.c x.xs y.xs W Hx.out.len Hy.out.len Hx.out.max Hy.out.max Hx.out.sl Hy.out.sl).mono ?_
  rintro e w1 ⟨rfl, hb1⟩
  go_wp2
  go_ret
  exact ⟨rfl, hb1⟩
theorem enClosure : ∀ args w, (callFunc 25 args).run Tryd.prog w = .ok (.enter 25 args) w := fun _ _ => by kernel_rfl

/-- A row that lies outside block g. -/
def Out (w : World) (g : Nat) (h : Hd) : Prop := Hd.In w h ∧ ∀ b off, h.A = some ⟨b, off, none⟩ → b ≠ g ∧ b < w.heap.size
theorem Out.same {w w' : World} {g : Nat} {h : Hd} (ho : Out w g h) (hs : w.heap.size ≤ w'.heap.size) (hb : ∀ b, b ≠ g → b < w.heap.size → w'.heap[b]? = w.heap[b]?) : Out w' g h := by
  refine ⟨⟨ho.1.len, ho.1.max, ?_⟩, fun b off hA => ⟨(ho.2 b off hA).1, Nat.lt_of_lt_of_le (ho.2 b off hA).2 hs⟩⟩
  rcases ho.1.sl with h0 | ⟨b, off, hA, hlt, hc⟩
  · exact .inl h0
  · have e := hb b (ho.2 b off hA).1 hlt
    have hcell : ∀ j, w'.cell? ⟨b, j, none⟩ = w.cell? ⟨b, j, none⟩ := fun j => by simp only [World.cell?, e]
    exact .inr ⟨b, off, hA, Nat.lt_of_lt_of_le hlt hs, fun i a ha => by rw [hcell, hcell, hcell]; exact hc i a ha⟩
theorem Out.after {w w' : World} {g : Nat} {h : Hd} (ho : Out w g h) (hb : Below w.heap.size w w') : Out w' g h := ho.same hb.size (fun b _ hlt => hb.block b hlt)
theorem Out.set {w : World} {g : Nat} {h : Hd} (ho : Out w g h) (i : Nat) (v : Value) : Out (w.setCell ⟨g, i, none⟩ v) g h :=
  ho.same (by simp) (fun b hb _ => Below.heap_setCell _ _ _ _ (by exact hb))
theorem sortWorld_block {α : Type} [Inhabited α] (enc : α → Value) (w : World) (g off m : Nat) (d : Array α) (os : Array Obj) (b : Nat) (hb : b ≠ g) (hlt : b < w.heap.size) : (sortWorld enc w g off m d os).heap[b]? = w.heap[b]? := by
  unfold sortWorld
  show ((putRow enc (Sort.ahead w m) g off d).heap ++ os)[b]? = _
  rw [Array.getElem?_append_left (by rw [Sort.size_putRow]; exact hlt)]
  show (w.heap.modify g _)[b]? = _
  rw [Array.getElem?_modify, if_neg (Ne.symm hb)]
theorem sortWorld_size {α : Type} [Inhabited α] (enc : α → Value) (w : World) (g off m : Nat) (d : Array α) (os : Array Obj) : w.heap.size ≤ (sortWorld enc w g off m d os).heap.size := by
  unfold sortWorld
  rw [size_grow, Sort.size_putRow]
  exact Nat.le_add_right _ _
theorem sortWorld_below {α : Type} [Inhabited α] (enc : α → Value) (w0 w : World) (B g off m : Nat) (d : Array α) (os : Array Obj) (h : Below B w0 w) (hg : B ≤ g) (hB : B ≤ w0.heap.size) : Below B w0 (sortWorld enc w g off m d os) :=
  ⟨h.os, h.tape, h.output, Nat.le_trans h.size (sortWorld_size enc w g off m d os), fun k hk => (sortWorld_block enc w g off m d os k (by omega) (Nat.lt_of_lt_of_le (by omega) h.size)).trans (h.block k hk)⟩

/-- Rows outside block g, as a type of their own. -/
abbrev OutT (w : World) (g : Nat) := { h : Hd // Out w g h }
instance (w : World) (g : Nat) : Inhabited (OutT w g) := ⟨⟨⟨none, 0, 0, []⟩, ⟨rfl, Nat.zero_le _, .inl rfl⟩, fun b off h => by cases h⟩⟩
def encO {w : World} {g : Nat} (x : OutT w g) : Value := x.1.v
def cfO {w : World} {g : Nat} (x y : OutT w g) : Int := cmpL x.1.xs y.1.xs
theorem ltO {w : World} {g : Nat} (x y : OutT w g) : ltOf cfO x y = !leR y.1.xs x.1.xs := by
  unfold ltOf cfO leR
  rw [cmpL_neg x.1.xs y.1.xs]
  rcases cmpL_range x.1.xs y.1.xs with e | e | e <;> rw [e] <;> rfl
theorem swoO (w : World) (g : Nat) : SWO (ltOf (cfO (w := w) (g := g))) where
  irrefl x := by
    rw [ltO]
    have := leR_total x.1.xs x.1.xs
    rw [Bool.or_self] at this
    rw [this]; rfl
  trans x y z h1 h2 := by
    rw [ltO, Bool.not_eq_true'] at h1 h2 ⊢
    have t1 := leR_total y.1.xs x.1.xs
    rw [h1, Bool.false_or] at t1
    cases h3 : leR z.1.xs x.1.xs
    · rfl
    · rw [leR_trans _ _ _ h3 t1] at h2
      cases h2
  ntrans x y z h1 h2 := by
    rw [ltO, Bool.not_eq_false'] at h1 h2 ⊢
    exact leR_trans _ _ _ h2 h1
theorem cmpO (w : World) (g n : Nat) (_hg : g < w.heap.size) : CmpLays1 Tryd.prog 25 #[] (encO (w := w) (g := g)) cfO g 0 n w := by
  intro m os dk _ x y
  have hx : Out (sortWorld encO w g 0 m dk os) g x.1 := x.2.same (sortWorld_size _ _ _ _ _ _ _) (fun b hb hlt => sortWorld_block _ _ _ _ _ _ _ b hb hlt)
  have hy : Out (sortWorld encO w g 0 m dk os) g y.1 := y.2.same (sortWorld_size _ _ _ _ _ _ _) (fun b hb hlt => sortWorld_block _ _ _ _ _ _ _ b hb hlt)
  exact closure_g x.1 y.1 _ hx.1 hy.1

/-- slices.SortFunc over rows that lie outside the list's own block. -/
theorem sortFunc_c (g n : Nat) (ks : List Hd) (w : World) (hn : ks.length = n) (hn1 : n ≤ 1000) (hM : Mk w g 1 n rdH ks) (ho : ∀ h ∈ ks, Out w g h) :
    Calls Tryd.prog 24 #[.slice (some ⟨g, 0, none⟩) n n, .func (.func 25) #[] #[]] w fun e w' => e = .returned (.tuple #[]) ∧
      ∃ ks' : List Hd, ks'.map (·.xs) = sortR (ks.map (·.xs)) ∧ ks'.length = n ∧ SlG w' (some ⟨g, 0, none⟩) 1 rdH ks' ∧ (∀ h ∈ ks', Out w' g h) ∧ (∀ (w0 : World) (B : Nat), Below B w0 w → B ≤ g → B ≤ w0.heap.size → Below B w0 w') := by
  let l : List (OutT w g) := ks.attachWith (Out w g) ho
  have hl : l.map (·.1) = ks := List.attachWith_map_subtype_val ..
  have hll : l.length = n := by rw [← hn, ← hl, List.length_map]
  have hsz : l.toArray.size = n := by rw [List.size_toArray]; exact hll
  have hget : ∀ j (hj : j < n), l.toArray[j]! = l[j]'(by omega) := fun j hj => by
    rw [getElem!_pos _ j (by omega)]
    simp
  have hks : ∀ j (hj : j < n), ks[j]? = some (l[j]'(by omega)).1 := fun j hj => by
    have : ks[j]? = (l.map (·.1))[j]? := by rw [hl]
    rw [this, List.getElem?_map, List.getElem?_eq_getElem (by omega)]
    rfl
  have hH : Holds encO w g 0 l.toArray := by
    intro j hj
    rw [hsz] at hj
    rw [hget j hj, Nat.zero_add]
    refine ⟨?_, hM.thaw j⟩
    have := hM.at' j _ (hks j hj) 0 _ rfl
    rw [Nat.mul_one, Nat.add_zero] at this
    exact this
  have hS := Any.slices_SortFunc Tryd.sortL encO (fun _ => rfl) cfO (swoO w g) 25 #[] g 0 n l.toArray w enClosure (by rw [hsz]; exact cmpO w g n hM.lt) hH hM.lt (by rw [hsz]; omega)
  rw [hsz] at hS
  refine hS.mono ?_
  rintro e w' ⟨he, d', q, os, hp, hs, rfl⟩
  refine ⟨he, d'.toList.map (·.1), ?_, ?_, ?_, ?_, ?_⟩
  · have hd : d'.size = n := hp.1.trans hsz
    have hperm : d'.toList.Perm l := by
      have := hp.2.2
      rw [show d'.extract 0 n = d' by rw [← hd]; simp, show l.toArray.extract 0 n = l.toArray by rw [← hsz]; simp] at this
      exact this
    refine sortR_of ?_ ?_
    · rw [List.map_map, ← hl, List.map_map]
      exact hperm.map _
    · rw [List.map_map, List.pairwise_map, List.pairwise_iff_getElem]
      intro i j hi hj hij
      have hi' : i < d'.size := by simpa using hi
      have hj' : j < d'.size := by simpa using hj
      have := hs i j (Nat.zero_le _) hij (by omega)
      rw [getElem!_pos _ i hi', getElem!_pos _ j hj', ltO, Bool.not_eq_false'] at this
      simpa using this
  · rw [List.length_map]
    show d'.size = n
    exact hp.1.trans hsz
  · have hH2 := holds_sortWorld encO w g 0 q l.toArray d' os hM.lt hH hp.1
    refine .inr ⟨g, 0, rfl, Nat.lt_of_lt_of_le hM.lt (sortWorld_size _ _ _ _ _ _ _), fun i x hx j u hu => ?_⟩
    have hj : j = 0 := by
      have := (List.getElem?_eq_some_iff.1 hu).1
      simp [rdH] at this
      exact this
    subst hj
    rw [List.getElem?_map] at hx
    cases hy : d'.toList[i]? with
    | none => rw [hy] at hx; cases hx
    | some y =>
      rw [hy] at hx
      simp only [Option.map_some, Option.some.injEq] at hx
      subst hx
      obtain ⟨hi, hiy⟩ := List.getElem?_eq_some_iff.1 hy
      have hi' : i < d'.size := by simpa using hi
      have h1 := (hH2 i hi').1
      rw [getElem!_pos _ i hi'] at h1
      have h2 : d'[i] = y := by simpa using hiy
      rw [h2] at h1
      simp [rdH] at hu
      subst hu
      rw [Nat.zero_add] at h1
      rw [Nat.zero_add, Nat.mul_one, Nat.add_zero]
      exact h1
  · intro h hh
    obtain ⟨x, _, rfl⟩ := List.mem_map.1 hh
    exact x.2.same (sortWorld_size _ _ _ _ _ _ _) (fun b hb hlt => sortWorld_block _ _ _ _ _ _ _ b hb hlt)
  · intro w0 B hb hB hB0
    exact sortWorld_below _ w0 w B g _ _ _ _ hb hB hB0

set_option maxHeartbeats 1000000 in
theorem sort_c (A : Option Addr) (n c : Nat) (hs : List Hd) (w : World) (hn : hs.length = n) (hn1 : n ≤ 1000) (hsl : SlG w A 1 rdH hs) (hin : ∀ h ∈ hs, Hd.In w h ∧ h.n ≤ 100000) :
    Calls Tryd.prog 10 #[.slice A n c] w fun en w' => ∃ (g : Nat) (ks : List Hd), en = .returned (.slice (some ⟨g, 0, none⟩) n n) ∧ Below w.heap.size w w' ∧ w.heap.size ≤ g ∧ SlG w' (some ⟨g, 0, none⟩) 1 rdH ks ∧ (∀ h ∈ ks, Hd.In w' h) ∧ ks.map (·.xs) = sortR (hs.map (·.xs)) ∧ ks.length = n := by
  obtain ⟨cells, hcs, hmk⟩ := make_run hOk n (by omega) (by unfold maxLen; omega)
  have Hs := Lib.hid hsl
  have Hn := Lib.hid hn
  have Hi := Lib.hid hin
  have Hcs := Lib.hid hcs
  clear hsl hn hin hcs
  go_enter Tryd.func10, Tryd.ntmps10
  go_wp2_with fail
  have Hmk : Hid (Mk (w.alloc (.cells cells 28)) w.heap.size 1 n rdH []) := Mk.new w cells _ (by rw [Hcs.out])
  have Hb1 : Hid (Below w.heap.size w (w.alloc (.cells cells 28))) := below_one _ _
  clear hmk Hcs
  go_loopw [11] (fun i wr => ∃ k : Nat, k ≤ n ∧ i = .int .i64 k ∧ Hid (Below w.heap.size w wr) ∧ ∃ ks : List Hd, Hid (ks.length = k ∧ ks.map (·.xs) = (hs.take k).map (·.xs) ∧ Mk wr w.heap.size 1 n rdH ks ∧ ∀ h ∈ ks, Out wr w.heap.size h)) (fun i _ => n - (intOf i).toNat)
  case atStart => exact ⟨0, Nat.zero_le _, rfl, Hb1, [], ⟨rfl, rfl, Hmk.out, fun h hh => by cases hh⟩⟩
  case round =>
    obtain ⟨k, hk, rfl, hb, ks, hK⟩ := hrel
    clear Hmk Hb1
    by_cases hlt : k < n
    · obtain ⟨b, off, h, rfl, hblt, hh, c0⟩ := Hs.out.at1 (by rw [Hn.out]; exact hlt)
      have d0 := (hb.out.cell (p := ⟨b, off + k, none⟩) hblt).trans (c0 _ rfl)
      have l0 : b < wr.heap.size := Nat.lt_of_lt_of_le hblt hb.out.size
      obtain ⟨hi1, hi2⟩ := Hi.out h (List.mem_of_getElem? hh)
      have Hi1 := Lib.hid (hi1.after hb.out)
      have Hi2 := Lib.hid hi2
      have Hh := Lib.hid hh
      clear hi1 hi2 hh c0 hblt
      have hjn : (joinR [h]) = h.xs := by simp [joinR]
      have Hjn := Lib.hid hjn
      clear hjn
      go_wp2_with fail
      refine (join_c (some ⟨wr.heap.size, 0, none⟩) 1 1 [h] _ rfl (by unfold maxLen; omega) (SlG.new hOk.len [h] rfl) (fun h' hh' => by rw [List.mem_singleton] at hh'; subst hh'; exact Hi1.out.after (below_one _ _)) (by rw [Hjn.out, Hi1.out.len]; exact Hi2.out)).mono ?_
      rintro en w1 ⟨v, rfl, hb1, hv1⟩
      rw [Hjn.out] at hv1
      obtain ⟨h', rfl, hIn', hxs', hbl', _⟩ := hv1.hd
      have hb1' := (below_one wr _).trans (hb1.mono (by simp))
      have hb2 := hb.out.trans (hb1'.mono hb.out.size)
      have hM1 := hK.out.2.2.1.after hb1' hK.out.2.2.1.lt
      have hO1 : ∀ q ∈ ks, Out w1 w.heap.size q := fun q hq => (hK.out.2.2.2 q hq).after hb1'
      have hO' : Out w1 w.heap.size h' := ⟨hIn', fun b off hA => by have := hbl' b off hA; have := hb.out.size; simp at *; omega⟩
      have hset := hM1.set1 hOk.len h' h'.v rfl (by rw [hK.out.1]; exact hlt)
      rw [hK.out.1] at hset
      obtain ⟨u0, f0⟩ := hM1.all k (by omega)
      have z0 := hM1.thaw k
      have HF : Hid (Below w.heap.size w (w1.setCell ⟨w.heap.size, k, none⟩ h'.v)) := hb2.setCell (Nat.le_refl _) _
      have HK : Hid ((ks ++ [h']).length = k + 1 ∧ (ks ++ [h']).map (·.xs) = (hs.take (k + 1)).map (·.xs) ∧ Mk (w1.setCell ⟨w.heap.size, k, none⟩ h'.v) w.heap.size 1 n rdH (ks ++ [h']) ∧ ∀ q ∈ ks ++ [h'], Out (w1.setCell ⟨w.heap.size, k, none⟩ h'.v) w.heap.size q) := by
        refine ⟨by rw [List.length_append, hK.out.1]; rfl, ?_, hset, fun q hq => ?_⟩
        · rw [List.map_append, hK.out.2.1, List.take_add_one, Hh.out]
          simp [hxs']
        · rcases List.mem_append.1 hq with hq | hq
          · exact (hO1 q hq).set _ _
          · rw [List.mem_singleton] at hq
            subst hq
            exact hO'.set _ _
      clear hv1 hIn' hxs' hbl' hb1 hb1' hb2 hM1 hO1 hO' hset hb hK Hi1 Hi2 Hh Hjn d0
      go_wp2_with fail
      go_roundw
      case rel => exact ⟨k + 1, by omega, by go_num, HF, ks ++ [h'], HK⟩
      case measure => simp [intOf]; omega
    · obtain rfl : k = n := by omega
      have hS := sortFunc_c w.heap.size k ks wr hK.out.1 hn1 hK.out.2.2.1 hK.out.2.2.2
      have hmap : ks.map (·.xs) = hs.map (·.xs) := by
        rw [hK.out.2.1, show hs.take k = hs from List.take_of_length_le (by rw [Hn.out]; omega)]
      rw [hmap] at hS
      have HS := Lib.hid hS
      clear hS hmap hK
      go_wp2_with fail
      refine HS.out.mono ?_
      rintro en w1 ⟨rfl, ks', h1, h2, h3, h4, h5⟩
      have hb2 := h5 w w.heap.size hb.out (Nat.le_refl _) (Nat.le_refl _)
      have HF : Hid (∃ (g : Nat) (ks : List Hd), (.slice (some ⟨w.heap.size, 0, none⟩) k k : Value) = .slice (some ⟨g, 0, none⟩) k k ∧ Below w.heap.size w w1 ∧ w.heap.size ≤ g ∧ SlG w1 (some ⟨g, 0, none⟩) 1 rdH ks ∧ (∀ h ∈ ks, Hd.In w1 h) ∧ ks.map (·.xs) = sortR (hs.map (·.xs)) ∧ ks.length = k) :=
        ⟨w.heap.size, ks', rfl, hb2, Nat.le_refl _, h3, fun h hh => (h4 h hh).1, h1, h2⟩
      clear h1 h2 h3 h4 h5 hb2 hb HS
      go_wp2_with fail
      go_ret
      obtain ⟨g, ks, e, r⟩ := HF.out
      exact ⟨g, ks, congrArg Ending.returned e, r⟩
end Go.Proofs.YtbhliihmipbfjaaDoor
