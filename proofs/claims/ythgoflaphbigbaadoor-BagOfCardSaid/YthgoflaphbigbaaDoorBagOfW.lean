/-
  BagOf, walked: the bag of any rows is as the document says. Of every list of rows.
-/
import Derived.Test.YthgoflaphbigbaaDoorSameP5
import Derived.Test.YthgoflaphbigbaaDoorOf5
import Derived.Test.YthgoflaphbigbaaDoorShort4
namespace Go.Proofs.YthgoflaphbigbaaDoor
open Go Go.RowKit
set_option maxRecDepth 100000

set_option maxHeartbeats 4000000 in
theorem bagOf_w (A : Option Addr) (n c : Nat) (hs : List Hd) (w : World) (hl : hs.length = n) (hn : n ≤ maxLen) (hsl : SlG w A 1 rdH hs) (hin : ∀ h ∈ hs, Ct.In w ⟨h, 1⟩) (hG : Gl w) :
    Calls Tryd.prog 3 #[.slice A n c] w fun e w' => e = .returned (.bool true) ∧ Below w.heap.size w w' := by
  have HS := Lib.hid (shortRows_c A n c hs w hl hn hsl (fun h hh => (hin h hh).hd) (fun h hh => (hin h hh).sz))
  have Hsh : Hid (shortRR (hs.map (·.xs)) = true → n ≤ 100) := Lib.hid fun h => by
    unfold shortRR at h
    rw [Bool.and_eq_true, decide_eq_true_eq, List.length_map, hl] at h
    exact h.2
  have HG := Lib.hid hG
  have Hl := Lib.hid hl
  have Hs := Lib.hid hsl
  have Hi := Lib.hid hin
  clear hl hsl hin hG
  go_enter Tryd.func3, Tryd.ntmps3
  go_wp2_with fail
  refine HS.out.mono ?_
  rintro e w1 ⟨rfl, hb⟩
  have Sw1 := Lib.hid hb
  clear hb HS
  cases hS : shortRR (hs.map (·.xs))
  · go_wp2_with fail
    refine (fixed_c w1 (HG.out.after Sw1.out)).mono ?_
    rintro e w2 ⟨rfl, hb2⟩
    have HF := Lib.hid (below_via Sw1.out hb2)
    clear hb2
    go_wp2
    go_ret
    exact ⟨rfl, HF.out⟩
  · have hn1 := Hsh.out hS
    clear hS Hsh
    go_wp2_with fail
    refine (fixed_c w1 (HG.out.after Sw1.out)).mono ?_
    rintro e w2 ⟨rfl, hb⟩
    have Sw2 := Lib.hid (hb)
    clear hb
    go_wp2_with fail
    refine (of_c A n c hs w2 Hl.out (by omega) (Hs.out.after (below_via Sw1.out Sw2.out)) (fun h hh => (Hi.out h hh).after (below_via Sw1.out Sw2.out))).mono ?_
    rintro e w3 ⟨A1, n1, c1, cs1, rfl, hb, hB, hpl⟩
    have Sw3 := Lib.hid (hb)
    have B1 := Lib.hid hB
    have P1 := Lib.hid hpl
    clear hb hB hpl
    go_wp2_with fail
    refine (rofB_c A n c hs w3 Hl.out (by omega) (Hs.out.after (below_via (below_via Sw1.out Sw2.out) Sw3.out)) (fun h hh => (Hi.out h hh).after (below_via (below_via Sw1.out Sw2.out) Sw3.out))).mono ?_
    rintro e w4 ⟨A2, n2, c2, cs2, rfl, hb, hB, hpl⟩
    have Sw4 := Lib.hid (hb)
    have B2 := Lib.hid hB
    have P2 := Lib.hid hpl
    clear hb hB hpl
    have hcs := sameB_c A1 A2 n1 n2 c1 c2 cs1 cs2 w4 (B1.out.after Sw4.out) B2.out
    rw [P1.out, P2.out, sameB_self] at hcs
    have Hcs := Lib.hid hcs
    clear hcs
    go_wp2_with fail
    refine (Hcs.out).mono ?_
    rintro e w5 ⟨rfl, hb⟩
    have Sw5 := Lib.hid (hb)
    clear hb Hcs
    have HF := Lib.hid (below_via (below_via (below_via (below_via Sw1.out Sw2.out) Sw3.out) Sw4.out) Sw5.out)
    clear Sw1 Sw2 Sw3 Sw4 Sw5
    go_wp2
    go_ret
    exact ⟨rfl, HF.out⟩
end Go.Proofs.YthgoflaphbigbaaDoor
