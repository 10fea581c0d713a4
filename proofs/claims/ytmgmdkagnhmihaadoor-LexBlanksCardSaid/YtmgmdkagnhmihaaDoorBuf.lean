/-
  A buffer of bytes that a call owns: what it reads as, and how it grows by a byte or by a text. No condition beyond its length.
-/
import Derived.Test.YtmgmdkagnhmihaaDoorVal
import Derived.Laws.IdiomStrings
import Derived.Laws.BytesArg
namespace Go.Proofs.YtmgmdkagnhmihaaDoor
open Go Go.RowKit

def bcells (l : List UInt8) : List Value := l.map fun b => Value.int .u8 b.toNat
theorem bcells_append (l r : List UInt8) : bcells (l ++ r) = bcells l ++ bcells r := by simp [bcells]

/-- The slice v is the call's own, and reads as the bytes bs. -/
def Buf (w : World) (B : Nat) (v : Value) (bs : List UInt8) : Prop := w.ownsRow B 5 1 v bs.length (bcells bs)
theorem Buf.nil (w : World) (B : Nat) : Buf w B (.slice none 0 0) [] := World.ownsRow_nil w B _ 1
theorem Buf.after {w w' : World} {B : Nat} {v : Value} {bs : List UInt8} (h : Buf w B v bs) (hb : Below w.heap.size w w') : Buf w' B v bs := by
  obtain ⟨h1, h2⟩ := h
  refine ⟨h1, ?_⟩
  rcases h2 with h2 | ⟨g', cap, cur, hv, hB, hh, h3⟩
  · exact .inl h2
  · have hlt : g' < w.heap.size := by
      rcases Nat.lt_or_ge g' w.heap.size with hlt | hge
      · exact hlt
      · rw [Array.getElem?_eq_none hge] at hh; cases hh
    exact .inr ⟨g', cap, cur, hv, hB, (hb.block g' hlt).trans hh, h3⟩
theorem Buf.alloc {w : World} {B : Nat} {v : Value} {bs : List UInt8} (h : Buf w B v bs) (o : Obj) : Buf (w.alloc o) B v bs := h.after (below_one w o)
theorem Buf.lt {w : World} {B : Nat} {v : Value} {bs : List UInt8} (h : Buf w B v bs) : ∀ k, v.ownBlock = some k → B ≤ k ∧ k < w.heap.size := fun k hk => World.ownsRow.lt h k hk
theorem u8Info : (Tryd.prog.info? 5).map (fun i => (i.zero, i.size, i.bytes)) = some (some (.int .u8 0), 1, 1) := by kernel_rfl

/-- append, of one byte. -/
theorem wpList_appB {ops : Array Oper} {rest : List Oper} {o : Oper} {a : Act} {Q : Exit → Act → World → Prop} {w0 : World} {c : Int} (hgd : o.guard = none) (s x : Operand) (ho : o.op = .call { callee := .builtin .append, args := #[s, x], argTypes := #[62, 62] })
    (B : Nat) (v : Value) (bs : List UInt8) (b : UInt8) (hs : a.eval s = v) (hb : Buf w0 B v bs) (hc : c = b.toNat) (g : Nat) (hx : a.eval x = .slice (some ⟨g, 0, none⟩) 1 1) (hg : g = w0.heap.size)
    (hmax : bs.length ≤ 1000000) (hB : B ≤ w0.heap.size)
    (h : ∀ v' w', Buf w' B v' (bs ++ [b]) → w0.grownBy w' v.ownBlock → wpList Tryd.prog ops Q rest (a.put o.dst v') w') : wpList Tryd.prog ops Q (o :: rest) a (w0.alloc (.cells #[.int .u8 c] 5)) := by
  obtain ⟨i0, hi, hz0, hz1, hz2⟩ := info_parts u8Info
  subst hc hg
  have hal := hb.alloc (.cells #[.int .u8 b.toNat] 5)
  refine wpList_append_own_at _ hgd s x 62 ho B 5 i0 (.int .u8 0) 1 1 Tryd.underlying62 hi hz0 hz1 hz2 (by decide) (by decide) v bs.length (bcells bs) hs hal ⟨w0.heap.size, 0, none⟩ 1 1 [.int .u8 b.toNat] hx rfl (cell_one_new _ _ _) (fun u hu => by rw [List.mem_singleton] at hu; subst hu; rfl) (by unfold maxLen; omega) (by omega) (by simp; omega) ?_
  intro v' w' hown' hgrow _ _
  refine h v' w' ?_ ((World.grownBy_alloc w0 _ _).trans hgrow)
  unfold Buf
  rw [bcells_append, List.length_append]
  exact hown'

/-- append, of a text. -/
theorem wpList_appS {ops : Array Oper} {rest : List Oper} {o : Oper} {a : Act} {Q : Exit → Act → World → Prop} {w : World} (hgd : o.guard = none) (s x : Operand) (ho : o.op = .call { callee := .builtin .append, args := #[s, x], argTypes := #[62, 9] })
    (B : Nat) (v : Value) (bs : List UInt8) (t : ByteArray) (hs : a.eval s = v) (hb : Buf w B v bs) (hx : a.eval x = .string t)
    (hmax : bs.length + t.size ≤ 1000000) (hB : B ≤ w.heap.size)
    (h : ∀ v' w', Buf w' B v' (bs ++ t.data.toList) → w.grownBy w' v.ownBlock → wpList Tryd.prog ops Q rest (a.put o.dst v') w') : wpList Tryd.prog ops Q (o :: rest) a w := by
  obtain ⟨i0, hi, hz0, hz1, hz2⟩ := info_parts u8Info
  refine Lib.wpList_append_own_string w hgd s x 62 9 ho B 5 i0 Tryd.underlying62 Tryd.underlying9 hi hz0 hz1 hz2 v bs.length (bcells bs) hs hb t hx (by unfold maxLen; omega) (by omega) hB ?_
  intro v' w' hown' hgrow _
  refine h v' w' ?_ hgrow
  unfold Buf
  rw [bcells_append, List.length_append]
  have e : t.data.toList.length = t.size := rfl
  rw [e]
  exact hown'

/-- What a function that grows the buffer answers. -/
def BufPost (B : Nat) (w : World) (bs : List UInt8) (e : Ending) (w' : World) : Prop := ∃ v', e = .returned v' ∧ Buf w' B v' bs ∧ Below B w w'

/-- The buffer as a text. -/
theorem Buf.conv {w : World} {B : Nat} {v : Value} {bs : List UInt8} (h : Buf w B v bs) : (convert 62 9 v).run Tryd.prog w = .ok (.string ⟨bs.toArray⟩) w := by
  rcases h.2 with ⟨rfl, hn⟩ | ⟨g, cap, cur, rfl, _⟩
  · have : bs = [] := List.eq_nil_of_length_eq_zero hn
    subst this
    exact run_convert_bytes_nil (w := w) 62 5 Tryd.underlying62 Tryd.underlying5 0 0 9 Tryd.underlying9
  · refine run_convert_bytes_back w 62 9 5 ⟨g, 0, none⟩ cap bs Tryd.underlying62 Tryd.underlying5 Tryd.underlying9 fun j hj => ?_
    exact World.ownsRow.cells (g := g) h rfl j _ (by simp [bcells, List.getElem?_eq_getElem hj])
end Go.Proofs.YtmgmdkagnhmihaaDoor
