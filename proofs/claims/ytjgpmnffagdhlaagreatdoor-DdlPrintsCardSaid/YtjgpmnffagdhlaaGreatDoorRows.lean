/-
  NARROWER THAN 'FOR EVERY INPUT', by the rows' own cells (each row's printed sentence says how): DdlPrints: laid · DdlBack: laid · DdlBlanks: laid · DdlParts: laid · DdlUnlike: laid · StmtBack: laid · StmtKeys: laid · StmtUnlike: laid · StmtRows: laid.
  DERIVED. THE GIVEN ROWS OF THIS SEAT. 9 by the template 'for every input the law returns true; each argument reads behind the call as it read before'; 0 by the template 'total and deterministic' (their statements: YtjgpmnffagdhlaaGreatDoorTotals.lean).
  GIVEN WITH THE SEED: the statements are not yours to turn. If you find one false, say at which input.
  Laid BY PROGRAM, IN A SANDBOX (cutbox-rows.mjs): the forced cells as the released guide's own fill.sh prints them over the translation 07c952a8ef3d14a8… (all of the seat's roots in one cut). By AI agents, Wed Nov 11 2026. No macro, syntax, notation, axiom, sorry.
-/
import Derived.Test.YtjgpmnffagdhlaaGreatDoorChecked
import GoSem.PinnedTables
import GoSem.Claim
import GoSem.ClaimJoined
import GoSem.ClaimMapViews
import Derived.JoinedTies
import Derived.KernelRfl
namespace Go.Proofs.YtjgpmnffagdhlaaGreatDoor
/- THE CELL 'sum', in the pinned program and in every row, IS THE sha256 OF THE DUMP (.gsa) THAT YtjgpmnffagdhlaaGreatDoorProg.lean LOADS. Nothing in Lean hashes anything: it is a label: what it is worth is what the hold of that sum in a sandbox is worth. -/
noncomputable def Tryz.pinned : Pinned := { name := "ytjgpmnffagdhlaagreatdoor", sum := "07c952a8ef3d14a8e803eee8cf7ab7918c7f7994d2ee259eef79dcd82776ec43", checked := Tryz.checked }
namespace Rows
def none {H : Type} : Left H := { results := [], args := [] }

/- WHAT THE LISTED PACKAGE-LEVEL VARIABLES READ AS WHEN THE CALL BEGINS. Each datum BY PROGRAM (the guide's laid-datum.mjs) off the statement by which the dump's own 'gosem.cut.vars' lays the variable. In a bare row this is a premise. The card (YtjgpmnffagdhlaaGreatDoorCards.lean) ties it to the program's text. -/
def laid_math_bits_deBruijn32tab {H : Type} : DataW H := .agg [.lit (.int .u8 0), .lit (.int .u8 1), .lit (.int .u8 28), .lit (.int .u8 2), .lit (.int .u8 29), .lit (.int .u8 14), .lit (.int .u8 24), .lit (.int .u8 3), .lit (.int .u8 30), .lit (.int .u8 22), .lit (.int .u8 20), .lit (.int .u8 15), .lit (.int .u8 25), .lit (.int .u8 17), .lit (.int .u8 4), .lit (.int .u8 8), .lit (.int .u8 31), .lit (.int .u8 27), .lit (.int .u8 13), .lit (.int .u8 23), .lit (.int .u8 21), .lit (.int .u8 19), .lit (.int .u8 16), .lit (.int .u8 7), .lit (.int .u8 26), .lit (.int .u8 12), .lit (.int .u8 18), .lit (.int .u8 6), .lit (.int .u8 11), .lit (.int .u8 5), .lit (.int .u8 10), .lit (.int .u8 9)]
def laid_math_bits_deBruijn64tab {H : Type} : DataW H := .agg [.lit (.int .u8 0), .lit (.int .u8 1), .lit (.int .u8 56), .lit (.int .u8 2), .lit (.int .u8 57), .lit (.int .u8 49), .lit (.int .u8 28), .lit (.int .u8 3), .lit (.int .u8 61), .lit (.int .u8 58), .lit (.int .u8 42), .lit (.int .u8 50), .lit (.int .u8 38), .lit (.int .u8 29), .lit (.int .u8 17), .lit (.int .u8 4), .lit (.int .u8 62), .lit (.int .u8 47), .lit (.int .u8 59), .lit (.int .u8 36), .lit (.int .u8 45), .lit (.int .u8 43), .lit (.int .u8 51), .lit (.int .u8 22), .lit (.int .u8 53), .lit (.int .u8 39), .lit (.int .u8 33), .lit (.int .u8 30), .lit (.int .u8 24), .lit (.int .u8 18), .lit (.int .u8 12), .lit (.int .u8 5), .lit (.int .u8 63), .lit (.int .u8 55), .lit (.int .u8 48), .lit (.int .u8 27), .lit (.int .u8 60), .lit (.int .u8 41), .lit (.int .u8 37), .lit (.int .u8 16), .lit (.int .u8 46), .lit (.int .u8 35), .lit (.int .u8 44), .lit (.int .u8 21), .lit (.int .u8 52), .lit (.int .u8 32), .lit (.int .u8 23), .lit (.int .u8 11), .lit (.int .u8 54), .lit (.int .u8 26), .lit (.int .u8 40), .lit (.int .u8 15), .lit (.int .u8 34), .lit (.int .u8 20), .lit (.int .u8 31), .lit (.int .u8 10), .lit (.int .u8 25), .lit (.int .u8 14), .lit (.int .u8 19), .lit (.int .u8 9), .lit (.int .u8 13), .lit (.int .u8 8), .lit (.int .u8 7), .lit (.int .u8 6)]
def laid_internal_strconv_uint64pow10 {H : Type} : DataW H := .agg [.lit (.int .u64 1), .lit (.int .u64 10), .lit (.int .u64 100), .lit (.int .u64 1000), .lit (.int .u64 10000), .lit (.int .u64 100000), .lit (.int .u64 1000000), .lit (.int .u64 10000000), .lit (.int .u64 100000000), .lit (.int .u64 1000000000), .lit (.int .u64 10000000000), .lit (.int .u64 100000000000), .lit (.int .u64 1000000000000), .lit (.int .u64 10000000000000), .lit (.int .u64 100000000000000), .lit (.int .u64 1000000000000000), .lit (.int .u64 10000000000000000), .lit (.int .u64 100000000000000000), .lit (.int .u64 1000000000000000000), .lit (.int .u64 10000000000000000000)]
def laid_unicode_utf8_acceptRanges {H : Type} : DataW H := .agg [.agg [.lit (.int .u8 128), .lit (.int .u8 191)], .agg [.lit (.int .u8 160), .lit (.int .u8 191)], .agg [.lit (.int .u8 128), .lit (.int .u8 159)], .agg [.lit (.int .u8 144), .lit (.int .u8 191)], .agg [.lit (.int .u8 128), .lit (.int .u8 143)], .agg [.lit (.int .u8 0), .lit (.int .u8 0)], .agg [.lit (.int .u8 0), .lit (.int .u8 0)], .agg [.lit (.int .u8 0), .lit (.int .u8 0)], .agg [.lit (.int .u8 0), .lit (.int .u8 0)], .agg [.lit (.int .u8 0), .lit (.int .u8 0)], .agg [.lit (.int .u8 0), .lit (.int .u8 0)], .agg [.lit (.int .u8 0), .lit (.int .u8 0)], .agg [.lit (.int .u8 0), .lit (.int .u8 0)], .agg [.lit (.int .u8 0), .lit (.int .u8 0)], .agg [.lit (.int .u8 0), .lit (.int .u8 0)], .agg [.lit (.int .u8 0), .lit (.int .u8 0)]]
def laid_strconv_ErrRange {H : Type} : DataW H := .iface "*errors.errorString" (.ptr (.agg [.lit (.string [118, 97, 108, 117, 101, 32, 111, 117, 116, 32, 111, 102, 32, 114, 97, 110, 103, 101])]))
def laid_strconv_ErrSyntax {H : Type} : DataW H := .iface "*errors.errorString" (.ptr (.agg [.lit (.string [105, 110, 118, 97, 108, 105, 100, 32, 115, 121, 110, 116, 97, 120])]))
def laid_levee_expr_words {H : Type} : DataW H := .agg [.lit (.string []), .lit (.string []), .lit (.string [43]), .lit (.string [45]), .lit (.string [42]), .lit (.string [61]), .lit (.string [60]), .lit (.string [97, 110, 100]), .lit (.string [111, 114]), .lit (.string [110, 111, 116]), .lit (.string [110, 117, 108, 108, 63])]
/-- One of Go's own tables, pinned by name: the form's constant. -/
def laid_unicode_utf8_first : DataW Unit := Go.Pinned.utf8First
def laid_levee_stmt_words {H : Type} : DataW H := .agg [.lit (.string [103, 101, 116]), .lit (.string [115, 99, 97, 110]), .lit (.string [112, 117, 116]), .lit (.string [115, 101, 116]), .lit (.string [99, 117, 116]), .lit (.string [108, 111, 111, 107])]

/-- 'leveelaw07.DdlPrints': WHATEVER THE INPUT: true; the input reads as it did. -/
def ddlPrintsSpec : ChangeSpec := { name := "ddlPrints", fn := fun _ => fun
  | [d] => { results := [.lit (.bool true)], args := [d] }
  | _ => none }
def ddlPrintsRow : OpenClaim := { program := "ytjgpmnffagdhlaagreatdoor", sum := "07c952a8ef3d14a8e803eee8cf7ab7918c7f7994d2ee259eef79dcd82776ec43", func := "levee/leveelaw07.DdlPrints", spec := "ddlPrints", inPlace := ["internal/bytealg.IndexByteString", "internal/bytealg.IndexString", "internal/abi.NoEscape", "internal/bytealg.CountString", "internal/bytealg.MakeNoZero"], unfollowed := true, recurses := true, named := ["strconv.ErrSyntax", "strconv.ErrRange", "internal/strconv.uint64pow10", "math/bits.deBruijn32tab", "math/bits.deBruijn64tab", "internal/bytealg.MaxLen", "levee/expr.words", "unicode/utf8.first", "unicode/utf8.acceptRanges"], apart := false, laid := [("math/bits.deBruijn32tab", laid_math_bits_deBruijn32tab), ("math/bits.deBruijn64tab", laid_math_bits_deBruijn64tab), ("internal/strconv.uint64pow10", laid_internal_strconv_uint64pow10), ("unicode/utf8.acceptRanges", laid_unicode_utf8_acceptRanges), ("strconv.ErrRange", laid_strconv_ErrRange), ("strconv.ErrSyntax", laid_strconv_ErrSyntax), ("levee/expr.words", laid_levee_expr_words), ("unicode/utf8.first", laid_unicode_utf8_first)] }
def DdlPrintsSaid : Prop := ddlPrintsRow.holds Tryz.pinned (OpenSpec.ofChange ddlPrintsSpec)

/-- ITS FALSE NEIGHBOUR: 'it returns false'. Refute it at one input. -/
def ddlPrintsWrong : ChangeSpec := { name := "ddlPrints", fn := fun _ => fun
  | [d] => { results := [.lit (.bool false)], args := [d] }
  | _ => none }
def DdlPrintsWrongFalsely : Prop := ddlPrintsRow.holds Tryz.pinned (OpenSpec.ofChange ddlPrintsWrong)

/-- 'leveelaw07.DdlBack': WHATEVER THE INPUT: true; the input reads as it did. -/
def ddlBackSpec : ChangeSpec := { name := "ddlBack", fn := fun _ => fun
  | [d1, d2] => { results := [.lit (.bool true)], args := [d1, d2] }
  | _ => none }
def ddlBackRow : OpenClaim := { program := "ytjgpmnffagdhlaagreatdoor", sum := "07c952a8ef3d14a8e803eee8cf7ab7918c7f7994d2ee259eef79dcd82776ec43", func := "levee/leveelaw07.DdlBack", spec := "ddlBack", inPlace := ["internal/bytealg.IndexByteString", "internal/bytealg.IndexString", "internal/abi.NoEscape", "internal/bytealg.CountString", "internal/bytealg.MakeNoZero"], unfollowed := true, recurses := true, named := ["strconv.ErrSyntax", "strconv.ErrRange", "internal/strconv.uint64pow10", "math/bits.deBruijn32tab", "math/bits.deBruijn64tab", "internal/bytealg.MaxLen", "levee/expr.words", "unicode/utf8.first", "unicode/utf8.acceptRanges"], apart := false, laid := [("math/bits.deBruijn32tab", laid_math_bits_deBruijn32tab), ("math/bits.deBruijn64tab", laid_math_bits_deBruijn64tab), ("internal/strconv.uint64pow10", laid_internal_strconv_uint64pow10), ("unicode/utf8.acceptRanges", laid_unicode_utf8_acceptRanges), ("strconv.ErrRange", laid_strconv_ErrRange), ("strconv.ErrSyntax", laid_strconv_ErrSyntax), ("levee/expr.words", laid_levee_expr_words), ("unicode/utf8.first", laid_unicode_utf8_first)] }
def DdlBackSaid : Prop := ddlBackRow.holds Tryz.pinned (OpenSpec.ofChange ddlBackSpec)

/-- ITS FALSE NEIGHBOUR: 'it returns false'. Refute it at one input. -/
def ddlBackWrong : ChangeSpec := { name := "ddlBack", fn := fun _ => fun
  | [d1, d2] => { results := [.lit (.bool false)], args := [d1, d2] }
  | _ => none }
def DdlBackWrongFalsely : Prop := ddlBackRow.holds Tryz.pinned (OpenSpec.ofChange ddlBackWrong)

/-- 'leveelaw07.DdlBlanks': WHATEVER THE INPUT: true; the input reads as it did. -/
def ddlBlanksSpec : ChangeSpec := { name := "ddlBlanks", fn := fun _ => fun
  | [d1, d2] => { results := [.lit (.bool true)], args := [d1, d2] }
  | _ => none }
def ddlBlanksRow : OpenClaim := { program := "ytjgpmnffagdhlaagreatdoor", sum := "07c952a8ef3d14a8e803eee8cf7ab7918c7f7994d2ee259eef79dcd82776ec43", func := "levee/leveelaw07.DdlBlanks", spec := "ddlBlanks", inPlace := ["internal/bytealg.IndexByteString", "internal/bytealg.IndexString", "internal/abi.NoEscape", "internal/bytealg.CountString", "internal/bytealg.MakeNoZero"], unfollowed := true, recurses := true, named := ["strconv.ErrSyntax", "strconv.ErrRange", "internal/strconv.uint64pow10", "math/bits.deBruijn32tab", "math/bits.deBruijn64tab", "internal/bytealg.MaxLen", "levee/expr.words", "unicode/utf8.first", "unicode/utf8.acceptRanges"], apart := false, laid := [("math/bits.deBruijn32tab", laid_math_bits_deBruijn32tab), ("math/bits.deBruijn64tab", laid_math_bits_deBruijn64tab), ("internal/strconv.uint64pow10", laid_internal_strconv_uint64pow10), ("unicode/utf8.acceptRanges", laid_unicode_utf8_acceptRanges), ("strconv.ErrRange", laid_strconv_ErrRange), ("strconv.ErrSyntax", laid_strconv_ErrSyntax), ("levee/expr.words", laid_levee_expr_words), ("unicode/utf8.first", laid_unicode_utf8_first)] }
def DdlBlanksSaid : Prop := ddlBlanksRow.holds Tryz.pinned (OpenSpec.ofChange ddlBlanksSpec)

/-- ITS FALSE NEIGHBOUR: 'it returns false'. Refute it at one input. -/
def ddlBlanksWrong : ChangeSpec := { name := "ddlBlanks", fn := fun _ => fun
  | [d1, d2] => { results := [.lit (.bool false)], args := [d1, d2] }
  | _ => none }
def DdlBlanksWrongFalsely : Prop := ddlBlanksRow.holds Tryz.pinned (OpenSpec.ofChange ddlBlanksWrong)

/-- 'leveelaw07.DdlParts': WHATEVER THE INPUT: true; the input reads as it did. -/
def ddlPartsSpec : ChangeSpec := { name := "ddlParts", fn := fun _ => fun
  | [d] => { results := [.lit (.bool true)], args := [d] }
  | _ => none }
def ddlPartsRow : OpenClaim := { program := "ytjgpmnffagdhlaagreatdoor", sum := "07c952a8ef3d14a8e803eee8cf7ab7918c7f7994d2ee259eef79dcd82776ec43", func := "levee/leveelaw07.DdlParts", spec := "ddlParts", inPlace := ["internal/bytealg.IndexByteString", "internal/bytealg.IndexString", "internal/abi.NoEscape", "internal/bytealg.CountString", "internal/bytealg.MakeNoZero"], unfollowed := true, recurses := true, named := ["strconv.ErrSyntax", "strconv.ErrRange", "internal/strconv.uint64pow10", "math/bits.deBruijn32tab", "math/bits.deBruijn64tab", "internal/bytealg.MaxLen", "levee/expr.words", "unicode/utf8.first", "unicode/utf8.acceptRanges"], apart := false, laid := [("math/bits.deBruijn32tab", laid_math_bits_deBruijn32tab), ("math/bits.deBruijn64tab", laid_math_bits_deBruijn64tab), ("internal/strconv.uint64pow10", laid_internal_strconv_uint64pow10), ("unicode/utf8.acceptRanges", laid_unicode_utf8_acceptRanges), ("strconv.ErrRange", laid_strconv_ErrRange), ("strconv.ErrSyntax", laid_strconv_ErrSyntax), ("levee/expr.words", laid_levee_expr_words), ("unicode/utf8.first", laid_unicode_utf8_first)] }
def DdlPartsSaid : Prop := ddlPartsRow.holds Tryz.pinned (OpenSpec.ofChange ddlPartsSpec)

/-- ITS FALSE NEIGHBOUR: 'it returns false'. Refute it at one input. -/
def ddlPartsWrong : ChangeSpec := { name := "ddlParts", fn := fun _ => fun
  | [d] => { results := [.lit (.bool false)], args := [d] }
  | _ => none }
def DdlPartsWrongFalsely : Prop := ddlPartsRow.holds Tryz.pinned (OpenSpec.ofChange ddlPartsWrong)

/-- 'leveelaw07.DdlUnlike': WHATEVER THE INPUT: true; the input reads as it did. -/
def ddlUnlikeSpec : ChangeSpec := { name := "ddlUnlike", fn := fun _ => fun
  | [d1, d2] => { results := [.lit (.bool true)], args := [d1, d2] }
  | _ => none }
def ddlUnlikeRow : OpenClaim := { program := "ytjgpmnffagdhlaagreatdoor", sum := "07c952a8ef3d14a8e803eee8cf7ab7918c7f7994d2ee259eef79dcd82776ec43", func := "levee/leveelaw07.DdlUnlike", spec := "ddlUnlike", inPlace := ["internal/bytealg.IndexByteString", "internal/bytealg.IndexString", "internal/abi.NoEscape", "internal/bytealg.CountString", "internal/bytealg.MakeNoZero"], unfollowed := true, recurses := true, named := ["strconv.ErrSyntax", "strconv.ErrRange", "internal/strconv.uint64pow10", "math/bits.deBruijn32tab", "math/bits.deBruijn64tab", "internal/bytealg.MaxLen", "levee/expr.words", "unicode/utf8.first", "unicode/utf8.acceptRanges"], apart := false, laid := [("math/bits.deBruijn32tab", laid_math_bits_deBruijn32tab), ("math/bits.deBruijn64tab", laid_math_bits_deBruijn64tab), ("internal/strconv.uint64pow10", laid_internal_strconv_uint64pow10), ("unicode/utf8.acceptRanges", laid_unicode_utf8_acceptRanges), ("strconv.ErrRange", laid_strconv_ErrRange), ("strconv.ErrSyntax", laid_strconv_ErrSyntax), ("levee/expr.words", laid_levee_expr_words), ("unicode/utf8.first", laid_unicode_utf8_first)] }
def DdlUnlikeSaid : Prop := ddlUnlikeRow.holds Tryz.pinned (OpenSpec.ofChange ddlUnlikeSpec)

/-- ITS FALSE NEIGHBOUR: 'it returns false'. Refute it at one input. -/
def ddlUnlikeWrong : ChangeSpec := { name := "ddlUnlike", fn := fun _ => fun
  | [d1, d2] => { results := [.lit (.bool false)], args := [d1, d2] }
  | _ => none }
def DdlUnlikeWrongFalsely : Prop := ddlUnlikeRow.holds Tryz.pinned (OpenSpec.ofChange ddlUnlikeWrong)

/-- 'leveelaw08.StmtBack': WHATEVER THE INPUT: true; the input reads as it did. -/
def stmtBackSpec : ChangeSpec := { name := "stmtBack", fn := fun _ => fun
  | [d1, d2] => { results := [.lit (.bool true)], args := [d1, d2] }
  | _ => none }
def stmtBackRow : OpenClaim := { program := "ytjgpmnffagdhlaagreatdoor", sum := "07c952a8ef3d14a8e803eee8cf7ab7918c7f7994d2ee259eef79dcd82776ec43", func := "levee/leveelaw08.StmtBack", spec := "stmtBack", inPlace := ["internal/bytealg.IndexByteString", "internal/bytealg.IndexString", "internal/abi.NoEscape", "internal/bytealg.CountString", "internal/bytealg.MakeNoZero"], unfollowed := true, recurses := true, named := ["strconv.ErrSyntax", "strconv.ErrRange", "internal/strconv.uint64pow10", "math/bits.deBruijn32tab", "math/bits.deBruijn64tab", "internal/bytealg.MaxLen", "levee/stmt.words", "levee/expr.words", "unicode/utf8.first", "unicode/utf8.acceptRanges"], apart := false, laid := [("math/bits.deBruijn32tab", laid_math_bits_deBruijn32tab), ("math/bits.deBruijn64tab", laid_math_bits_deBruijn64tab), ("internal/strconv.uint64pow10", laid_internal_strconv_uint64pow10), ("unicode/utf8.acceptRanges", laid_unicode_utf8_acceptRanges), ("strconv.ErrRange", laid_strconv_ErrRange), ("strconv.ErrSyntax", laid_strconv_ErrSyntax), ("levee/expr.words", laid_levee_expr_words), ("levee/stmt.words", laid_levee_stmt_words), ("unicode/utf8.first", laid_unicode_utf8_first)] }
def StmtBackSaid : Prop := stmtBackRow.holds Tryz.pinned (OpenSpec.ofChange stmtBackSpec)

/-- ITS FALSE NEIGHBOUR: 'it returns false'. Refute it at one input. -/
def stmtBackWrong : ChangeSpec := { name := "stmtBack", fn := fun _ => fun
  | [d1, d2] => { results := [.lit (.bool false)], args := [d1, d2] }
  | _ => none }
def StmtBackWrongFalsely : Prop := stmtBackRow.holds Tryz.pinned (OpenSpec.ofChange stmtBackWrong)

/-- 'leveelaw08.StmtKeys': WHATEVER THE INPUT: true; the input reads as it did. -/
def stmtKeysSpec : ChangeSpec := { name := "stmtKeys", fn := fun _ => fun
  | [d] => { results := [.lit (.bool true)], args := [d] }
  | _ => none }
def stmtKeysRow : OpenClaim := { program := "ytjgpmnffagdhlaagreatdoor", sum := "07c952a8ef3d14a8e803eee8cf7ab7918c7f7994d2ee259eef79dcd82776ec43", func := "levee/leveelaw08.StmtKeys", spec := "stmtKeys", inPlace := ["internal/bytealg.IndexByteString", "internal/bytealg.IndexString", "internal/abi.NoEscape", "internal/bytealg.CountString", "internal/bytealg.MakeNoZero"], unfollowed := true, recurses := true, named := ["strconv.ErrSyntax", "strconv.ErrRange", "internal/strconv.uint64pow10", "math/bits.deBruijn32tab", "math/bits.deBruijn64tab", "internal/bytealg.MaxLen", "levee/stmt.words", "levee/expr.words", "unicode/utf8.first", "unicode/utf8.acceptRanges"], apart := false, laid := [("math/bits.deBruijn32tab", laid_math_bits_deBruijn32tab), ("math/bits.deBruijn64tab", laid_math_bits_deBruijn64tab), ("internal/strconv.uint64pow10", laid_internal_strconv_uint64pow10), ("unicode/utf8.acceptRanges", laid_unicode_utf8_acceptRanges), ("strconv.ErrRange", laid_strconv_ErrRange), ("strconv.ErrSyntax", laid_strconv_ErrSyntax), ("levee/expr.words", laid_levee_expr_words), ("levee/stmt.words", laid_levee_stmt_words), ("unicode/utf8.first", laid_unicode_utf8_first)] }
def StmtKeysSaid : Prop := stmtKeysRow.holds Tryz.pinned (OpenSpec.ofChange stmtKeysSpec)

/-- ITS FALSE NEIGHBOUR: 'it returns false'. Refute it at one input. -/
def stmtKeysWrong : ChangeSpec := { name := "stmtKeys", fn := fun _ => fun
  | [d] => { results := [.lit (.bool false)], args := [d] }
  | _ => none }
def StmtKeysWrongFalsely : Prop := stmtKeysRow.holds Tryz.pinned (OpenSpec.ofChange stmtKeysWrong)

/-- 'leveelaw08.StmtUnlike': WHATEVER THE INPUT: true; the input reads as it did. -/
def stmtUnlikeSpec : ChangeSpec := { name := "stmtUnlike", fn := fun _ => fun
  | [d1, d2] => { results := [.lit (.bool true)], args := [d1, d2] }
  | _ => none }
def stmtUnlikeRow : OpenClaim := { program := "ytjgpmnffagdhlaagreatdoor", sum := "07c952a8ef3d14a8e803eee8cf7ab7918c7f7994d2ee259eef79dcd82776ec43", func := "levee/leveelaw08.StmtUnlike", spec := "stmtUnlike", inPlace := ["internal/bytealg.IndexByteString", "internal/bytealg.IndexString", "internal/abi.NoEscape", "internal/bytealg.CountString", "internal/bytealg.MakeNoZero"], unfollowed := true, recurses := true, named := ["strconv.ErrSyntax", "strconv.ErrRange", "internal/strconv.uint64pow10", "math/bits.deBruijn32tab", "math/bits.deBruijn64tab", "internal/bytealg.MaxLen", "levee/stmt.words", "levee/expr.words", "unicode/utf8.first", "unicode/utf8.acceptRanges"], apart := false, laid := [("math/bits.deBruijn32tab", laid_math_bits_deBruijn32tab), ("math/bits.deBruijn64tab", laid_math_bits_deBruijn64tab), ("internal/strconv.uint64pow10", laid_internal_strconv_uint64pow10), ("unicode/utf8.acceptRanges", laid_unicode_utf8_acceptRanges), ("strconv.ErrRange", laid_strconv_ErrRange), ("strconv.ErrSyntax", laid_strconv_ErrSyntax), ("levee/expr.words", laid_levee_expr_words), ("levee/stmt.words", laid_levee_stmt_words), ("unicode/utf8.first", laid_unicode_utf8_first)] }
def StmtUnlikeSaid : Prop := stmtUnlikeRow.holds Tryz.pinned (OpenSpec.ofChange stmtUnlikeSpec)

/-- ITS FALSE NEIGHBOUR: 'it returns false'. Refute it at one input. -/
def stmtUnlikeWrong : ChangeSpec := { name := "stmtUnlike", fn := fun _ => fun
  | [d1, d2] => { results := [.lit (.bool false)], args := [d1, d2] }
  | _ => none }
def StmtUnlikeWrongFalsely : Prop := stmtUnlikeRow.holds Tryz.pinned (OpenSpec.ofChange stmtUnlikeWrong)

/-- 'leveelaw08.StmtRows': WHATEVER THE INPUT: true; the input reads as it did. -/
def stmtRowsSpec : ChangeSpec := { name := "stmtRows", fn := fun _ => fun
  | [d] => { results := [.lit (.bool true)], args := [d] }
  | _ => none }
def stmtRowsRow : OpenClaim := { program := "ytjgpmnffagdhlaagreatdoor", sum := "07c952a8ef3d14a8e803eee8cf7ab7918c7f7994d2ee259eef79dcd82776ec43", func := "levee/leveelaw08.StmtRows", spec := "stmtRows", inPlace := ["internal/bytealg.IndexByteString", "internal/bytealg.IndexString", "internal/abi.NoEscape", "internal/bytealg.CountString", "internal/bytealg.MakeNoZero"], unfollowed := true, recurses := true, named := ["strconv.ErrSyntax", "strconv.ErrRange", "internal/strconv.uint64pow10", "math/bits.deBruijn32tab", "math/bits.deBruijn64tab", "internal/bytealg.MaxLen", "levee/stmt.words", "levee/expr.words", "unicode/utf8.first", "unicode/utf8.acceptRanges"], apart := false, laid := [("math/bits.deBruijn32tab", laid_math_bits_deBruijn32tab), ("math/bits.deBruijn64tab", laid_math_bits_deBruijn64tab), ("internal/strconv.uint64pow10", laid_internal_strconv_uint64pow10), ("unicode/utf8.acceptRanges", laid_unicode_utf8_acceptRanges), ("strconv.ErrRange", laid_strconv_ErrRange), ("strconv.ErrSyntax", laid_strconv_ErrSyntax), ("levee/expr.words", laid_levee_expr_words), ("levee/stmt.words", laid_levee_stmt_words), ("unicode/utf8.first", laid_unicode_utf8_first)] }
def StmtRowsSaid : Prop := stmtRowsRow.holds Tryz.pinned (OpenSpec.ofChange stmtRowsSpec)

/-- ITS FALSE NEIGHBOUR: 'it returns false'. Refute it at one input. -/
def stmtRowsWrong : ChangeSpec := { name := "stmtRows", fn := fun _ => fun
  | [d] => { results := [.lit (.bool false)], args := [d] }
  | _ => none }
def StmtRowsWrongFalsely : Prop := stmtRowsRow.holds Tryz.pinned (OpenSpec.ofChange stmtRowsWrong)

/- THE SECOND FORM. 'bulk': how many values and letters a reading holds, each counted each time it is reached (what is shared counts as often as it is met; a slice's spare places count too). A statement '..UptoSaid' is the law's where the arguments, and the package variables that the reading takes, are together of bulk at most 1048576: NARROWER than '..Said'. Prove '..Said' where nothing that the law and all that it calls make is longer than what came in: it says more and counts as full. Else prove '..UptoSaid'. A law counts once. -/
mutual
def uptoBulk {H : Type} : DataW H → Nat
  | .lit (.string bytes) => bytes.length + 1
  | .lit _ => 1
  | .nil => 1
  | .ptr d => uptoBulk d + 1
  | .slice elems spare => uptoBulkAll elems + uptoBulkAll spare + 1
  | .agg parts => uptoBulkAll parts + 1
  | .iface _ d => uptoBulk d + 1
  | .map entries => uptoBulkEntries entries + 1
  | .held _ => 1
def uptoBulkAll {H : Type} : List (DataW H) → Nat
  | [] => 0
  | d :: r => uptoBulk d + uptoBulkAll r
def uptoBulkEntries {H : Type} : List (Lit × DataW H) → Nat
  | [] => 0
  | x :: r => uptoBulkEntry x + uptoBulkEntries r
def uptoBulkEntry {H : Type} : Lit × DataW H → Nat
  | (.string bytes, d) => bytes.length + uptoBulk d + 1
  | (_, d) => uptoBulk d + 1
 end
def uptoSmall : (H : Type) → List (DataW H) → Bool := fun _ ds => decide (uptoBulkAll ds ≤ 1048576)
def OpenSpec.upto (s : _root_.Go.ChangeSpec) : _root_.Go.OpenSpec := { _root_.Go.OpenSpec.ofChange s with cond := some uptoSmall }

/-- 'leveelaw07.DdlPrints', WHERE WHAT IT READS IS OF BULK AT MOST 1048576: true; the input reads as it did. -/
def ddlPrintsUptoRow : OpenClaim := { program := "ytjgpmnffagdhlaagreatdoor", sum := "07c952a8ef3d14a8e803eee8cf7ab7918c7f7994d2ee259eef79dcd82776ec43", func := "levee/leveelaw07.DdlPrints", spec := "ddlPrints", inPlace := ["internal/bytealg.IndexByteString", "internal/bytealg.IndexString", "internal/abi.NoEscape", "internal/bytealg.CountString", "internal/bytealg.MakeNoZero"], unfollowed := true, recurses := true, named := ["strconv.ErrSyntax", "strconv.ErrRange", "internal/strconv.uint64pow10", "math/bits.deBruijn32tab", "math/bits.deBruijn64tab", "internal/bytealg.MaxLen", "levee/expr.words", "unicode/utf8.first", "unicode/utf8.acceptRanges"], apart := false, laid := [("math/bits.deBruijn32tab", laid_math_bits_deBruijn32tab), ("math/bits.deBruijn64tab", laid_math_bits_deBruijn64tab), ("internal/strconv.uint64pow10", laid_internal_strconv_uint64pow10), ("unicode/utf8.acceptRanges", laid_unicode_utf8_acceptRanges), ("strconv.ErrRange", laid_strconv_ErrRange), ("strconv.ErrSyntax", laid_strconv_ErrSyntax), ("levee/expr.words", laid_levee_expr_words), ("unicode/utf8.first", laid_unicode_utf8_first)], narrowed := true }
def DdlPrintsUptoSaid : Prop := ddlPrintsUptoRow.holds Tryz.pinned (OpenSpec.upto ddlPrintsSpec)

/-- 'leveelaw07.DdlBack', WHERE WHAT IT READS IS OF BULK AT MOST 1048576: true; the input reads as it did. -/
def ddlBackUptoRow : OpenClaim := { program := "ytjgpmnffagdhlaagreatdoor", sum := "07c952a8ef3d14a8e803eee8cf7ab7918c7f7994d2ee259eef79dcd82776ec43", func := "levee/leveelaw07.DdlBack", spec := "ddlBack", inPlace := ["internal/bytealg.IndexByteString", "internal/bytealg.IndexString", "internal/abi.NoEscape", "internal/bytealg.CountString", "internal/bytealg.MakeNoZero"], unfollowed := true, recurses := true, named := ["strconv.ErrSyntax", "strconv.ErrRange", "internal/strconv.uint64pow10", "math/bits.deBruijn32tab", "math/bits.deBruijn64tab", "internal/bytealg.MaxLen", "levee/expr.words", "unicode/utf8.first", "unicode/utf8.acceptRanges"], apart := false, laid := [("math/bits.deBruijn32tab", laid_math_bits_deBruijn32tab), ("math/bits.deBruijn64tab", laid_math_bits_deBruijn64tab), ("internal/strconv.uint64pow10", laid_internal_strconv_uint64pow10), ("unicode/utf8.acceptRanges", laid_unicode_utf8_acceptRanges), ("strconv.ErrRange", laid_strconv_ErrRange), ("strconv.ErrSyntax", laid_strconv_ErrSyntax), ("levee/expr.words", laid_levee_expr_words), ("unicode/utf8.first", laid_unicode_utf8_first)], narrowed := true }
def DdlBackUptoSaid : Prop := ddlBackUptoRow.holds Tryz.pinned (OpenSpec.upto ddlBackSpec)

/-- 'leveelaw07.DdlBlanks', WHERE WHAT IT READS IS OF BULK AT MOST 1048576: true; the input reads as it did. -/
def ddlBlanksUptoRow : OpenClaim := { program := "ytjgpmnffagdhlaagreatdoor", sum := "07c952a8ef3d14a8e803eee8cf7ab7918c7f7994d2ee259eef79dcd82776ec43", func := "levee/leveelaw07.DdlBlanks", spec := "ddlBlanks", inPlace := ["internal/bytealg.IndexByteString", "internal/bytealg.IndexString", "internal/abi.NoEscape", "internal/bytealg.CountString", "internal/bytealg.MakeNoZero"], unfollowed := true, recurses := true, named := ["strconv.ErrSyntax", "strconv.ErrRange", "internal/strconv.uint64pow10", "math/bits.deBruijn32tab", "math/bits.deBruijn64tab", "internal/bytealg.MaxLen", "levee/expr.words", "unicode/utf8.first", "unicode/utf8.acceptRanges"], apart := false, laid := [("math/bits.deBruijn32tab", laid_math_bits_deBruijn32tab), ("math/bits.deBruijn64tab", laid_math_bits_deBruijn64tab), ("internal/strconv.uint64pow10", laid_internal_strconv_uint64pow10), ("unicode/utf8.acceptRanges", laid_unicode_utf8_acceptRanges), ("strconv.ErrRange", laid_strconv_ErrRange), ("strconv.ErrSyntax", laid_strconv_ErrSyntax), ("levee/expr.words", laid_levee_expr_words), ("unicode/utf8.first", laid_unicode_utf8_first)], narrowed := true }
def DdlBlanksUptoSaid : Prop := ddlBlanksUptoRow.holds Tryz.pinned (OpenSpec.upto ddlBlanksSpec)

/-- 'leveelaw07.DdlParts', WHERE WHAT IT READS IS OF BULK AT MOST 1048576: true; the input reads as it did. -/
def ddlPartsUptoRow : OpenClaim := { program := "ytjgpmnffagdhlaagreatdoor", sum := "07c952a8ef3d14a8e803eee8cf7ab7918c7f7994d2ee259eef79dcd82776ec43", func := "levee/leveelaw07.DdlParts", spec := "ddlParts", inPlace := ["internal/bytealg.IndexByteString", "internal/bytealg.IndexString", "internal/abi.NoEscape", "internal/bytealg.CountString", "internal/bytealg.MakeNoZero"], unfollowed := true, recurses := true, named := ["strconv.ErrSyntax", "strconv.ErrRange", "internal/strconv.uint64pow10", "math/bits.deBruijn32tab", "math/bits.deBruijn64tab", "internal/bytealg.MaxLen", "levee/expr.words", "unicode/utf8.first", "unicode/utf8.acceptRanges"], apart := false, laid := [("math/bits.deBruijn32tab", laid_math_bits_deBruijn32tab), ("math/bits.deBruijn64tab", laid_math_bits_deBruijn64tab), ("internal/strconv.uint64pow10", laid_internal_strconv_uint64pow10), ("unicode/utf8.acceptRanges", laid_unicode_utf8_acceptRanges), ("strconv.ErrRange", laid_strconv_ErrRange), ("strconv.ErrSyntax", laid_strconv_ErrSyntax), ("levee/expr.words", laid_levee_expr_words), ("unicode/utf8.first", laid_unicode_utf8_first)], narrowed := true }
def DdlPartsUptoSaid : Prop := ddlPartsUptoRow.holds Tryz.pinned (OpenSpec.upto ddlPartsSpec)

/-- 'leveelaw07.DdlUnlike', WHERE WHAT IT READS IS OF BULK AT MOST 1048576: true; the input reads as it did. -/
def ddlUnlikeUptoRow : OpenClaim := { program := "ytjgpmnffagdhlaagreatdoor", sum := "07c952a8ef3d14a8e803eee8cf7ab7918c7f7994d2ee259eef79dcd82776ec43", func := "levee/leveelaw07.DdlUnlike", spec := "ddlUnlike", inPlace := ["internal/bytealg.IndexByteString", "internal/bytealg.IndexString", "internal/abi.NoEscape", "internal/bytealg.CountString", "internal/bytealg.MakeNoZero"], unfollowed := true, recurses := true, named := ["strconv.ErrSyntax", "strconv.ErrRange", "internal/strconv.uint64pow10", "math/bits.deBruijn32tab", "math/bits.deBruijn64tab", "internal/bytealg.MaxLen", "levee/expr.words", "unicode/utf8.first", "unicode/utf8.acceptRanges"], apart := false, laid := [("math/bits.deBruijn32tab", laid_math_bits_deBruijn32tab), ("math/bits.deBruijn64tab", laid_math_bits_deBruijn64tab), ("internal/strconv.uint64pow10", laid_internal_strconv_uint64pow10), ("unicode/utf8.acceptRanges", laid_unicode_utf8_acceptRanges), ("strconv.ErrRange", laid_strconv_ErrRange), ("strconv.ErrSyntax", laid_strconv_ErrSyntax), ("levee/expr.words", laid_levee_expr_words), ("unicode/utf8.first", laid_unicode_utf8_first)], narrowed := true }
def DdlUnlikeUptoSaid : Prop := ddlUnlikeUptoRow.holds Tryz.pinned (OpenSpec.upto ddlUnlikeSpec)

/-- 'leveelaw08.StmtBack', WHERE WHAT IT READS IS OF BULK AT MOST 1048576: true; the input reads as it did. -/
def stmtBackUptoRow : OpenClaim := { program := "ytjgpmnffagdhlaagreatdoor", sum := "07c952a8ef3d14a8e803eee8cf7ab7918c7f7994d2ee259eef79dcd82776ec43", func := "levee/leveelaw08.StmtBack", spec := "stmtBack", inPlace := ["internal/bytealg.IndexByteString", "internal/bytealg.IndexString", "internal/abi.NoEscape", "internal/bytealg.CountString", "internal/bytealg.MakeNoZero"], unfollowed := true, recurses := true, named := ["strconv.ErrSyntax", "strconv.ErrRange", "internal/strconv.uint64pow10", "math/bits.deBruijn32tab", "math/bits.deBruijn64tab", "internal/bytealg.MaxLen", "levee/stmt.words", "levee/expr.words", "unicode/utf8.first", "unicode/utf8.acceptRanges"], apart := false, laid := [("math/bits.deBruijn32tab", laid_math_bits_deBruijn32tab), ("math/bits.deBruijn64tab", laid_math_bits_deBruijn64tab), ("internal/strconv.uint64pow10", laid_internal_strconv_uint64pow10), ("unicode/utf8.acceptRanges", laid_unicode_utf8_acceptRanges), ("strconv.ErrRange", laid_strconv_ErrRange), ("strconv.ErrSyntax", laid_strconv_ErrSyntax), ("levee/expr.words", laid_levee_expr_words), ("levee/stmt.words", laid_levee_stmt_words), ("unicode/utf8.first", laid_unicode_utf8_first)], narrowed := true }
def StmtBackUptoSaid : Prop := stmtBackUptoRow.holds Tryz.pinned (OpenSpec.upto stmtBackSpec)

/-- 'leveelaw08.StmtKeys', WHERE WHAT IT READS IS OF BULK AT MOST 1048576: true; the input reads as it did. -/
def stmtKeysUptoRow : OpenClaim := { program := "ytjgpmnffagdhlaagreatdoor", sum := "07c952a8ef3d14a8e803eee8cf7ab7918c7f7994d2ee259eef79dcd82776ec43", func := "levee/leveelaw08.StmtKeys", spec := "stmtKeys", inPlace := ["internal/bytealg.IndexByteString", "internal/bytealg.IndexString", "internal/abi.NoEscape", "internal/bytealg.CountString", "internal/bytealg.MakeNoZero"], unfollowed := true, recurses := true, named := ["strconv.ErrSyntax", "strconv.ErrRange", "internal/strconv.uint64pow10", "math/bits.deBruijn32tab", "math/bits.deBruijn64tab", "internal/bytealg.MaxLen", "levee/stmt.words", "levee/expr.words", "unicode/utf8.first", "unicode/utf8.acceptRanges"], apart := false, laid := [("math/bits.deBruijn32tab", laid_math_bits_deBruijn32tab), ("math/bits.deBruijn64tab", laid_math_bits_deBruijn64tab), ("internal/strconv.uint64pow10", laid_internal_strconv_uint64pow10), ("unicode/utf8.acceptRanges", laid_unicode_utf8_acceptRanges), ("strconv.ErrRange", laid_strconv_ErrRange), ("strconv.ErrSyntax", laid_strconv_ErrSyntax), ("levee/expr.words", laid_levee_expr_words), ("levee/stmt.words", laid_levee_stmt_words), ("unicode/utf8.first", laid_unicode_utf8_first)], narrowed := true }
def StmtKeysUptoSaid : Prop := stmtKeysUptoRow.holds Tryz.pinned (OpenSpec.upto stmtKeysSpec)

/-- 'leveelaw08.StmtUnlike', WHERE WHAT IT READS IS OF BULK AT MOST 1048576: true; the input reads as it did. -/
def stmtUnlikeUptoRow : OpenClaim := { program := "ytjgpmnffagdhlaagreatdoor", sum := "07c952a8ef3d14a8e803eee8cf7ab7918c7f7994d2ee259eef79dcd82776ec43", func := "levee/leveelaw08.StmtUnlike", spec := "stmtUnlike", inPlace := ["internal/bytealg.IndexByteString", "internal/bytealg.IndexString", "internal/abi.NoEscape", "internal/bytealg.CountString", "internal/bytealg.MakeNoZero"], unfollowed := true, recurses := true, named := ["strconv.ErrSyntax", "strconv.ErrRange", "internal/strconv.uint64pow10", "math/bits.deBruijn32tab", "math/bits.deBruijn64tab", "internal/bytealg.MaxLen", "levee/stmt.words", "levee/expr.words", "unicode/utf8.first", "unicode/utf8.acceptRanges"], apart := false, laid := [("math/bits.deBruijn32tab", laid_math_bits_deBruijn32tab), ("math/bits.deBruijn64tab", laid_math_bits_deBruijn64tab), ("internal/strconv.uint64pow10", laid_internal_strconv_uint64pow10), ("unicode/utf8.acceptRanges", laid_unicode_utf8_acceptRanges), ("strconv.ErrRange", laid_strconv_ErrRange), ("strconv.ErrSyntax", laid_strconv_ErrSyntax), ("levee/expr.words", laid_levee_expr_words), ("levee/stmt.words", laid_levee_stmt_words), ("unicode/utf8.first", laid_unicode_utf8_first)], narrowed := true }
def StmtUnlikeUptoSaid : Prop := stmtUnlikeUptoRow.holds Tryz.pinned (OpenSpec.upto stmtUnlikeSpec)

/-- 'leveelaw08.StmtRows', WHERE WHAT IT READS IS OF BULK AT MOST 1048576: true; the input reads as it did. -/
def stmtRowsUptoRow : OpenClaim := { program := "ytjgpmnffagdhlaagreatdoor", sum := "07c952a8ef3d14a8e803eee8cf7ab7918c7f7994d2ee259eef79dcd82776ec43", func := "levee/leveelaw08.StmtRows", spec := "stmtRows", inPlace := ["internal/bytealg.IndexByteString", "internal/bytealg.IndexString", "internal/abi.NoEscape", "internal/bytealg.CountString", "internal/bytealg.MakeNoZero"], unfollowed := true, recurses := true, named := ["strconv.ErrSyntax", "strconv.ErrRange", "internal/strconv.uint64pow10", "math/bits.deBruijn32tab", "math/bits.deBruijn64tab", "internal/bytealg.MaxLen", "levee/stmt.words", "levee/expr.words", "unicode/utf8.first", "unicode/utf8.acceptRanges"], apart := false, laid := [("math/bits.deBruijn32tab", laid_math_bits_deBruijn32tab), ("math/bits.deBruijn64tab", laid_math_bits_deBruijn64tab), ("internal/strconv.uint64pow10", laid_internal_strconv_uint64pow10), ("unicode/utf8.acceptRanges", laid_unicode_utf8_acceptRanges), ("strconv.ErrRange", laid_strconv_ErrRange), ("strconv.ErrSyntax", laid_strconv_ErrSyntax), ("levee/expr.words", laid_levee_expr_words), ("levee/stmt.words", laid_levee_stmt_words), ("unicode/utf8.first", laid_unicode_utf8_first)], narrowed := true }
def StmtRowsUptoSaid : Prop := stmtRowsUptoRow.holds Tryz.pinned (OpenSpec.upto stmtRowsSpec)

end Rows
end Go.Proofs.YtjgpmnffagdhlaaGreatDoor
