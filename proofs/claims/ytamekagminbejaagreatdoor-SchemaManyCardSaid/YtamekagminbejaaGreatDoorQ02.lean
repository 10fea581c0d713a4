/-
  Part 2 of 8 of what the proof leans on: each part below says what it proves, and of what; no condition besides.
-/
import Derived.Test.YtamekagminbejaaGreatDoorQ01
import Derived.Shelf.Strings.Builder1
import Derived.Shelf.Strings.Builder2
import Derived.Shelf.Strings.OnBuilder
import Derived.Shelf.Small.Strs
import Derived.Shelf.Small.Wraps
import Derived.Shelf.Strings.BuilderF
import Derived.Shelf.Strings.BuilderK
import Derived.Shelf.Utf8.RuneCount
import Derived.Shelf.Strings.Builder2Cap
import Derived.Shelf.Strconv.Atoi
import Derived.Shelf.Strconv.Itoa0
import Derived.Shelf.Strconv.Itoa1
import Derived.Shelf.LaysM
import Derived.Shelf.Strconv.Itoa2
import Derived.Shelf.Strconv.Itoa3
import Derived.Shelf.Strconv.AtoiErrFast
import Derived.Shelf.Strconv.ParseIntEmpty
import Derived.Shelf.Strconv.AtoiFail
import Derived.Shelf.Strconv.Clone
import Derived.Shelf.Strconv.SyntaxError
import Derived.Shelf.LaysC
import Derived.Shelf.Strconv.ToError
import Derived.Shelf.Strconv.Lower
import Derived.Shelf.Strconv.ParseUint10
import Derived.Shelf.Strconv.ParseUint10Empty
import Derived.Shelf.Strconv.ParseUint10Any
import Derived.Shelf.Strconv.ParseInt10
import Derived.Shelf.Strconv.AtoiLong
import Derived.Shelf.Strconv.AtoiInnerAll
import Derived.Shelf.Strconv.RangeError
import Derived.Shelf.Strconv.ToErrorRange
import Derived.Shelf.Strconv.AtoiAll
import Derived.Shelf.Strconv.ErrVarAll
import Derived.Shelf.Strings.Search1
import Derived.Shelf.Strings.Search2
import Derived.Shelf.Strings.Search3
import Derived.Shelf.Strings.Count
import Derived.Shelf.Strings.Shaped
import Derived.Shelf.Strings.Prefix
import Derived.Shelf.Strings.Split
import Derived.Shelf.Strings.Replace
import Derived.Shelf.Strings.SplitShaped
import Derived.Shelf.Strings.RuneCount
import Derived.Shelf.Bits.Mul64
import Derived.Shelf.Unicode.DecodeSlow
import Derived.Shelf.Unicode.DecodeAny
import Derived.Shelf.Strings.BuilderCap
import Derived.Shelf.Slices.Turned
import Derived.Shelf.Slices.Equal
import Derived.Shelf.Slices.Empties2
import Derived.Test.YtamekagminbejaaGreatDoorProg
import Derived.Sort.Grow
import Derived.Lib.LaidTab
import Derived.Laws.Concat
import Derived.Laws.IdiomStrings
import Derived.Laws.BytesArg
import Derived.Defers
import Derived.Recover
import Derived.WideMake
set_option linter.unusedVariables false
set_option linter.unusedSimpArgs false
namespace Go.Proofs
open Go.Shelf
def Tryz.lays156_ren : Go.Shelf.Ren := ⟨fun | 156 => 210 | 165 => 221 | 166 => 169 | 169 => 113 | 240 => 199 | 241 => 236 | 276 => 208 | 277 => 247 | n => n, fun | 31 => 100 | 9 => 9 | 3 => 3 | 4 => 4 | 0 => 0 | 20 => 20 | 72 => 166 | 76 => 226 | 70 => 163 | 37 => 164 | 75 => 224 | 127 => 193 | 164 => 241 | 5 => 5 | 80 => 137 | n => n, fun | n => n⟩
theorem Tryz.lays156 : Go.Proofs.Lays.n156 Tryz.prog Tryz.lays156_ren := {
 mixed := by kernel_rfl
 f156 := Tryz.func210.trans (congrArg some (by kernel_rfl))
 f165 := Tryz.func221.trans (congrArg some (by kernel_rfl))
 f166 := Tryz.func169.trans (congrArg some (by kernel_rfl))
 f169 := Tryz.func113.trans (congrArg some (by kernel_rfl))
 f240 := Tryz.func199.trans (congrArg some (by kernel_rfl))
 f241 := Tryz.func236.trans (congrArg some (by kernel_rfl))
 f276 := Tryz.func208.trans (congrArg some (by kernel_rfl))
 f277 := Tryz.func247.trans (congrArg some (by kernel_rfl))
 t0 := Tryz.underlying0
 a0 := Tryz.isAgg0
 z0 := Tryz.sizeOf0
 v0 := Tryz.zeroValue0
 t3 := Tryz.underlying3
 a3 := Tryz.isAgg3
 z3 := Tryz.sizeOf3
 v3 := Tryz.zeroValue3
 t4 := Tryz.underlying4
 a4 := Tryz.isAgg4
 z4 := Tryz.sizeOf4
 v4 := Tryz.zeroValue4
 t9 := Tryz.underlying9
 a9 := Tryz.isAgg9
 z9 := Tryz.sizeOf9
 v9 := Tryz.zeroValue9
 t20 := Tryz.underlying20
 a20 := Tryz.isAgg20
 z20 := Tryz.sizeOf20
 v20 := Tryz.zeroValue20
 t31 := Tryz.underlying100
 a31 := Tryz.isAgg100
 z31 := Tryz.sizeOf100
 v31 := Tryz.zeroValue100
 t37 := Tryz.underlying164
 a37 := Tryz.isAgg164
 z37 := Tryz.sizeOf164
 v37 := Tryz.zeroValue164
 t70 := Tryz.underlying163
 a70 := Tryz.isAgg163
 z70 := Tryz.sizeOf163
 v70 := Tryz.zeroValue163
 t72 := Tryz.underlying166
 a72 := Tryz.isAgg166
 z72 := Tryz.sizeOf166
 v72 := Tryz.zeroValue166
 t75 := Tryz.underlying224
 a75 := Tryz.isAgg224
 z75 := Tryz.sizeOf224
 v75 := Tryz.zeroValue224
 t76 := Tryz.underlying226
 a76 := Tryz.isAgg226
 z76 := Tryz.sizeOf226
 v76 := Tryz.zeroValue226
 t127 := Tryz.underlying193
 a127 := Tryz.isAgg193
 z127 := Tryz.sizeOf193
 v127 := Tryz.zeroValue193
 t164 := Tryz.underlying241
 a164 := Tryz.isAgg241
 z164 := Tryz.sizeOf241
 v164 := Tryz.zeroValue241 }
theorem Tryz.Builder_Extra_156 : Builder.Extra Tryz.prog Tryz.lays156_ren := {
 sizeBuilder := by kernel_rfl
 liesBuilder := by kernel_rfl
 t5 := Tryz.underlying5
 a5 := Tryz.isAgg5
 z5 := Tryz.sizeOf5
 v5 := Tryz.zeroValue5
 infoByte := by kernel_rfl
 cellsByte := by kernel_rfl
 sizeByte := by kernel_rfl
 neB5 := by decide }
open Go.RowKit in
theorem Tryz.strings_Join (bk o c : Nat) (xs : List ByteArray) (sep : ByteArray) (w : World) (hcells : ∀ (j : Nat) x, xs[j]? = some x → w.cell? ⟨bk, o + j, none⟩ = some (.string x)) (hbk : bk < w.heap.size) (hN : xs.length ≤ 140737488355328) (hcap : xs.length ≤ c) (hlen : (Lib.join (xs.map (·.data.toList)) sep.data.toList).length ≤ 140737488355328) :
 Calls Tryz.prog 210 #[.slice (some ⟨bk, o, none⟩) xs.length c, .string sep] w fun e w' => e = .returned (.string ⟨(Lib.join (xs.map (·.data.toList)) sep.data.toList).toArray⟩) ∧ Below w.heap.size w w' := Any.strings_Join Tryz.lays156 Tryz.Builder_Extra_156 bk o c xs sep w hcells hbk hN hcap hlen
def Tryz.lays137_ren : Go.Shelf.Ren := ⟨fun | 137 => 202 | 217 => 215 | 266 => 227 | n => n, fun | 9 => 9 | 5 => 5 | 3 => 3 | n => n, fun | n => n⟩
theorem Tryz.lays137 : Go.Proofs.Lays.n137 Tryz.prog Tryz.lays137_ren := {
 mixed := by kernel_rfl
 f137 := Tryz.func202.trans (congrArg some (by kernel_rfl))
 f217 := Tryz.func215.trans (congrArg some (by kernel_rfl))
 f266 := Tryz.func227.trans (congrArg some (by kernel_rfl))
 t3 := Tryz.underlying3
 a3 := Tryz.isAgg3
 z3 := Tryz.sizeOf3
 v3 := Tryz.zeroValue3
 t5 := Tryz.underlying5
 a5 := Tryz.isAgg5
 z5 := Tryz.sizeOf5
 v5 := Tryz.zeroValue5
 t9 := Tryz.underlying9
 a9 := Tryz.isAgg9
 z9 := Tryz.sizeOf9
 v9 := Tryz.zeroValue9 }
open Go.RowKit in
theorem Tryz.strings_IndexByte (s : ByteArray) (c : Int) (w : World) :
 Calls Tryz.prog 202 #[.string s, .int .u8 c] w fun e w' => e = .returned (.int .i64 (Lib.indexByte s.data.toList c.toNat.toUInt8)) ∧ w' = w := Any.strings_IndexByte Tryz.lays137 s c w
def Tryz.lays103_ren : Go.Shelf.Ren := ⟨fun | 103 => 234 | 210 => 245 | 206 => 251 | n => n, fun | 9 => 9 | 4 => 4 | 24 => 264 | 3 => 3 | n => n, fun | n => n⟩
theorem Tryz.lays103 : Go.Proofs.Lays.n103 Tryz.prog Tryz.lays103_ren := {
 mixed := by kernel_rfl
 f103 := Tryz.func234.trans (congrArg some (by kernel_rfl))
 f206 := Tryz.func251.trans (congrArg some (by kernel_rfl))
 f210 := Tryz.func245.trans (congrArg some (by kernel_rfl))
 t3 := Tryz.underlying3
 a3 := Tryz.isAgg3
 z3 := Tryz.sizeOf3
 v3 := Tryz.zeroValue3
 t4 := Tryz.underlying4
 a4 := Tryz.isAgg4
 z4 := Tryz.sizeOf4
 v4 := Tryz.zeroValue4
 t9 := Tryz.underlying9
 a9 := Tryz.isAgg9
 z9 := Tryz.sizeOf9
 v9 := Tryz.zeroValue9
 t24 := Tryz.underlying264
 a24 := Tryz.isAgg264
 z24 := Tryz.sizeOf264
 v24 := Tryz.zeroValue264 }
open Go.RowKit in
theorem Tryz.strings_CutPrefix (s p : ByteArray) (w : World) :
 Calls Tryz.prog 234 #[.string s, .string p] w fun e w' => e = .returned (.tuple #[.string ⟨(Lib.trimPrefix s.data.toList p.data.toList).toArray⟩, .bool (Lib.hasPrefix s.data.toList p.data.toList)]) ∧ w' = w := Any.strings_CutPrefix Tryz.lays103 s p w
def Tryz.lays172_ren : Go.Shelf.Ren := ⟨fun | 172 => 203 | 244 => 216 | 245 => 217 | 247 => 228 | 279 => 229 | 280 => 230 | 281 => 231 | 282 => 232 | 287 => 239 | 316 => 240 | 171 => 145 | 205 => 241 | 321 => 248 | 322 => 249 | 243 => 173 | 246 => 201 | 283 => 211 | 284 => 212 | 285 => 213 | 286 => 214 | 129 => 223 | 317 => 222 | 318 => 224 | 319 => 225 | 320 => 226 | 337 => 237 | 338 => 238 | n => n, fun | 9 => 9 | 3 => 3 | 75 => 224 | 76 => 226 | 4 => 4 | 5 => 5 | 167 => 258 | 37 => 164 | 0 => 0 | 85 => 259 | 2 => 2 | 168 => 261 | 53 => 126 | 175 => 268 | 46 => 153 | 210 => 272 | 127 => 193 | 145 => 281 | 143 => 279 | 21 => 21 | 171 => 244 | 173 => 247 | 212 => 255 | 51 => 181 | 20 => 20 | 213 => 256 | 232 => 276 | 233 => 277 | 80 => 137 | n => n, fun | 15 => 3 | 16 => 4 | 17 => 1 | 18 => 5 | 19 => 6 | n => n⟩
def Tryz.laysM246_ren : Go.Shelf.Ren := ⟨fun | 246 => 201 | 283 => 211 | 284 => 212 | 285 => 213 | 286 => 214 | 129 => 223 | 317 => 222 | 318 => 224 | 319 => 225 | 320 => 226 | 337 => 237 | 338 => 238 | n => n, fun | 2 => 2 | 3 => 3 | 9 => 9 | 4 => 4 | 171 => 244 | 0 => 0 | 53 => 126 | 37 => 164 | 5 => 5 | 173 => 247 | 212 => 255 | 51 => 181 | 20 => 20 | 213 => 256 | 46 => 153 | 232 => 276 | 233 => 277 | n => n, fun | 17 => 1 | 18 => 5 | 19 => 6 | n => n⟩
def Tryz.laysM243_ren : Go.Shelf.Ren := ⟨fun | 243 => 173 | 246 => 201 | 283 => 211 | 284 => 212 | 285 => 213 | 286 => 214 | 129 => 223 | 317 => 222 | 318 => 224 | 319 => 225 | 320 => 226 | 337 => 237 | 338 => 238 | n => n, fun | 3 => 3 | 9 => 9 | 2 => 2 | 4 => 4 | 171 => 244 | 0 => 0 | 53 => 126 | 37 => 164 | 5 => 5 | 173 => 247 | 212 => 255 | 51 => 181 | 20 => 20 | 213 => 256 | 46 => 153 | 232 => 276 | 233 => 277 | n => n, fun | 17 => 1 | 18 => 5 | 19 => 6 | n => n⟩
def Tryz.laysM171_ren : Go.Shelf.Ren := ⟨fun | 171 => 145 | 243 => 173 | 246 => 201 | 283 => 211 | 284 => 212 | 285 => 213 | 286 => 214 | 129 => 223 | 317 => 222 | 318 => 224 | 319 => 225 | 320 => 226 | 337 => 237 | 338 => 238 | n => n, fun | 3 => 3 | 9 => 9 | 2 => 2 | 4 => 4 | 171 => 244 | 0 => 0 | 53 => 126 | 37 => 164 | 5 => 5 | 173 => 247 | 212 => 255 | 51 => 181 | 20 => 20 | 213 => 256 | 46 => 153 | 232 => 276 | 233 => 277 | n => n, fun | 17 => 1 | 18 => 5 | 19 => 6 | n => n⟩
theorem Tryz.laysM171 : Go.Proofs.LaysM.n171 Tryz.prog Tryz.laysM171_ren := {
 mixed := by kernel_rfl
 f129 := Tryz.func223.trans (congrArg some (by kernel_rfl))
 f171 := Tryz.func145.trans (congrArg some (by kernel_rfl))
 f243 := Tryz.func173.trans (congrArg some (by kernel_rfl))
 f246 := Tryz.func201.trans (congrArg some (by kernel_rfl))
 f283 := Tryz.func211.trans (congrArg some (by kernel_rfl))
 f284 := Tryz.func212.trans (congrArg some (by kernel_rfl))
 f285 := Tryz.func213.trans (congrArg some (by kernel_rfl))
 f286 := Tryz.func214.trans (congrArg some (by kernel_rfl))
 f317 := Tryz.func222.trans (congrArg some (by kernel_rfl))
 f318 := Tryz.func224.trans (congrArg some (by kernel_rfl))
 f319 := Tryz.func225.trans (congrArg some (by kernel_rfl))
 f320 := Tryz.func226.trans (congrArg some (by kernel_rfl))
 f337 := Tryz.func237.trans (congrArg some (by kernel_rfl))
 f338 := Tryz.func238.trans (congrArg some (by kernel_rfl))
 t0 := Tryz.underlying0
 a0 := Tryz.isAgg0
 z0 := Tryz.sizeOf0
 v0 := Tryz.zeroValue0
 t2 := Tryz.underlying2
 a2 := Tryz.isAgg2
 z2 := Tryz.sizeOf2
 v2 := Tryz.zeroValue2
 t3 := Tryz.underlying3
 a3 := Tryz.isAgg3
 z3 := Tryz.sizeOf3
 v3 := Tryz.zeroValue3
 t4 := Tryz.underlying4
 a4 := Tryz.isAgg4
 z4 := Tryz.sizeOf4
 v4 := Tryz.zeroValue4
 t5 := Tryz.underlying5
 a5 := Tryz.isAgg5
 z5 := Tryz.sizeOf5
 v5 := Tryz.zeroValue5
 t9 := Tryz.underlying9
 a9 := Tryz.isAgg9
 z9 := Tryz.sizeOf9
 v9 := Tryz.zeroValue9
 t20 := Tryz.underlying20
 a20 := Tryz.isAgg20
 z20 := Tryz.sizeOf20
 v20 := Tryz.zeroValue20
 t37 := Tryz.underlying164
 a37 := Tryz.isAgg164
 z37 := Tryz.sizeOf164
 v37 := Tryz.zeroValue164
 t46 := Tryz.underlying153
 a46 := Tryz.isAgg153
 z46 := Tryz.sizeOf153
 v46 := Tryz.zeroValue153
 t51 := Tryz.underlying181
 a51 := Tryz.isAgg181
 z51 := Tryz.sizeOf181
 v51 := Tryz.zeroValue181
 t53 := Tryz.underlying126
 a53 := Tryz.isAgg126
 z53 := Tryz.sizeOf126
 v53 := Tryz.zeroValue126
 t171 := Tryz.underlying244
 a171 := Tryz.isAgg244
 z171 := Tryz.sizeOf244
 v171 := Tryz.zeroValue244
 t173 := Tryz.underlying247
 a173 := Tryz.isAgg247
 z173 := Tryz.sizeOf247
 v173 := Tryz.zeroValue247
 t212 := Tryz.underlying255
 a212 := Tryz.isAgg255
 z212 := Tryz.sizeOf255
 v212 := Tryz.zeroValue255
 t213 := Tryz.underlying256
 a213 := Tryz.isAgg256
 z213 := Tryz.sizeOf256
 t232 := Tryz.underlying276
 a232 := Tryz.isAgg276
 z232 := Tryz.sizeOf276
 v232 := Tryz.zeroValue276
 t233 := Tryz.underlying277
 a233 := Tryz.isAgg277
 z233 := Tryz.sizeOf277
 v233 := Tryz.zeroValue277
 g17 := by kernel_rfl
 g18 := by kernel_rfl
 g19 := by kernel_rfl
 i0 := by kernel_rfl
 i2 := by kernel_rfl
 i3 := by kernel_rfl
 i4 := by kernel_rfl
 i5 := by kernel_rfl
 i9 := by kernel_rfl
 i20 := by kernel_rfl
 i37 := by kernel_rfl
 i46 := by kernel_rfl
 i51 := by kernel_rfl
 i53 := by kernel_rfl
 i171 := by kernel_rfl
 i173 := by kernel_rfl
 i212 := by kernel_rfl
 i232 := by kernel_rfl
 i233 := by kernel_rfl
 m17 := by kernel_rfl
 m18 := by kernel_rfl
 m19 := by kernel_rfl }
open Go.RowKit Go.Sort Go.Lib in
theorem Tryz.strconv_Itoa (n : Int) (h0 : -9223372036854775808 ≤ n) (h1 : n ≤ 9223372036854775807) (w : World) (htab : Lib.TabIs Tryz.prog w "internal/strconv.uint64pow10" .u64 Lib.pow10Tab) :
 Calls Tryz.prog 145 #[.int .i64 n] w fun e w' => e = .returned (.string ⟨(Lib.itoa n).toArray⟩) ∧ ∃ k os, w' = grow (w.drewN k) os := Any.strconv_Itoa Tryz.laysM171 n h0 h1 w htab
def Tryz.laysC172_ren : Go.Shelf.Ren := ⟨fun | 172 => 203 | 244 => 216 | 245 => 217 | 247 => 228 | 279 => 229 | 280 => 230 | 281 => 231 | 282 => 232 | 287 => 239 | 316 => 240 | 171 => 145 | 205 => 241 | 321 => 248 | 322 => 249 | 243 => 173 | 246 => 201 | 283 => 211 | 284 => 212 | 285 => 213 | 286 => 214 | 129 => 223 | 317 => 222 | 318 => 224 | 319 => 225 | 320 => 226 | 337 => 237 | 338 => 238 | n => n, fun | 9 => 9 | 3 => 3 | 75 => 224 | 76 => 226 | 4 => 4 | 5 => 5 | 167 => 258 | 37 => 164 | 0 => 0 | 85 => 259 | 2 => 2 | 168 => 261 | 53 => 126 | 175 => 268 | 46 => 153 | 210 => 272 | 127 => 193 | 145 => 281 | 143 => 279 | 21 => 21 | 171 => 244 | 173 => 247 | 212 => 255 | 51 => 181 | 20 => 20 | 213 => 256 | 232 => 276 | 233 => 277 | 80 => 137 | n => n, fun | 15 => 3 | 16 => 4 | 17 => 1 | 18 => 5 | 19 => 6 | n => n⟩
theorem Tryz.laysC172 : Go.Proofs.LaysC.n172 Tryz.prog Tryz.laysC172_ren := {
 mixed := by kernel_rfl
 f129 := Tryz.func223.trans (congrArg some (by kernel_rfl))
 f171 := Tryz.func145.trans (congrArg some (by kernel_rfl))
 f172 := Tryz.func203.trans (congrArg some (by kernel_rfl))
 f205 := Tryz.func241.trans (congrArg some (by kernel_rfl))
 f243 := Tryz.func173.trans (congrArg some (by kernel_rfl))
 f244 := Tryz.func216.trans (congrArg some (by kernel_rfl))
 f245 := Tryz.func217.trans (congrArg some (by kernel_rfl))
 f246 := Tryz.func201.trans (congrArg some (by kernel_rfl))
 f247 := Tryz.func228.trans (congrArg some (by kernel_rfl))
 f279 := Tryz.func229.trans (congrArg some (by kernel_rfl))
 f280 := Tryz.func230.trans (congrArg some (by kernel_rfl))
 f281 := Tryz.func231.trans (congrArg some (by kernel_rfl))
 f282 := Tryz.func232.trans (congrArg some (by kernel_rfl))
 f283 := Tryz.func211.trans (congrArg some (by kernel_rfl))
 f284 := Tryz.func212.trans (congrArg some (by kernel_rfl))
 f285 := Tryz.func213.trans (congrArg some (by kernel_rfl))
 f286 := Tryz.func214.trans (congrArg some (by kernel_rfl))
 f287 := Tryz.func239.trans (congrArg some (by kernel_rfl))
 f316 := Tryz.func240.trans (congrArg some (by kernel_rfl))
 f317 := Tryz.func222.trans (congrArg some (by kernel_rfl))
 f318 := Tryz.func224.trans (congrArg some (by kernel_rfl))
 f319 := Tryz.func225.trans (congrArg some (by kernel_rfl))
 f320 := Tryz.func226.trans (congrArg some (by kernel_rfl))
 f321 := Tryz.func248.trans (congrArg some (by kernel_rfl))
 f322 := Tryz.func249.trans (congrArg some (by kernel_rfl))
 f337 := Tryz.func237.trans (congrArg some (by kernel_rfl))
 f338 := Tryz.func238.trans (congrArg some (by kernel_rfl))
 t0 := Tryz.underlying0
 a0 := Tryz.isAgg0
 z0 := Tryz.sizeOf0
 v0 := Tryz.zeroValue0
 t2 := Tryz.underlying2
 a2 := Tryz.isAgg2
 z2 := Tryz.sizeOf2
 v2 := Tryz.zeroValue2
 t3 := Tryz.underlying3
 a3 := Tryz.isAgg3
 z3 := Tryz.sizeOf3
 v3 := Tryz.zeroValue3
 t4 := Tryz.underlying4
 a4 := Tryz.isAgg4
 z4 := Tryz.sizeOf4
 v4 := Tryz.zeroValue4
 t5 := Tryz.underlying5
 a5 := Tryz.isAgg5
 z5 := Tryz.sizeOf5
 v5 := Tryz.zeroValue5
 t9 := Tryz.underlying9
 a9 := Tryz.isAgg9
 z9 := Tryz.sizeOf9
 v9 := Tryz.zeroValue9
 t20 := Tryz.underlying20
 a20 := Tryz.isAgg20
 z20 := Tryz.sizeOf20
 v20 := Tryz.zeroValue20
 t21 := Tryz.underlying21
 a21 := Tryz.isAgg21
 z21 := Tryz.sizeOf21
 v21 := Tryz.zeroValue21
 t37 := Tryz.underlying164
 a37 := Tryz.isAgg164
 z37 := Tryz.sizeOf164
 v37 := Tryz.zeroValue164
 t46 := Tryz.underlying153
 a46 := Tryz.isAgg153
 z46 := Tryz.sizeOf153
 v46 := Tryz.zeroValue153
 t51 := Tryz.underlying181
 a51 := Tryz.isAgg181
 z51 := Tryz.sizeOf181
 v51 := Tryz.zeroValue181
 t53 := Tryz.underlying126
 a53 := Tryz.isAgg126
 z53 := Tryz.sizeOf126
 v53 := Tryz.zeroValue126
 t75 := Tryz.underlying224
 a75 := Tryz.isAgg224
 z75 := Tryz.sizeOf224
 v75 := Tryz.zeroValue224
 t76 := Tryz.underlying226
 a76 := Tryz.isAgg226
 z76 := Tryz.sizeOf226
 v76 := Tryz.zeroValue226
 t85 := Tryz.underlying259
 a85 := Tryz.isAgg259
 z85 := Tryz.sizeOf259
 v85 := Tryz.zeroValue259
 t127 := Tryz.underlying193
 a127 := Tryz.isAgg193
 z127 := Tryz.sizeOf193
 v127 := Tryz.zeroValue193
 t143 := Tryz.underlying279
 a143 := Tryz.isAgg279
 z143 := Tryz.sizeOf279
 v143 := Tryz.zeroValue279
 t145 := Tryz.underlying281
 a145 := Tryz.isAgg281
 z145 := Tryz.sizeOf281
 v145 := Tryz.zeroValue281
 t167 := Tryz.underlying258
 a167 := Tryz.isAgg258
 z167 := Tryz.sizeOf258
 v167 := Tryz.zeroValue258
 t168 := Tryz.underlying261
 a168 := Tryz.isAgg261
 z168 := Tryz.sizeOf261
 v168 := Tryz.zeroValue261
 t171 := Tryz.underlying244
 a171 := Tryz.isAgg244
 z171 := Tryz.sizeOf244
 v171 := Tryz.zeroValue244
 t173 := Tryz.underlying247
 a173 := Tryz.isAgg247
 z173 := Tryz.sizeOf247
 v173 := Tryz.zeroValue247
 t175 := Tryz.underlying268
 a175 := Tryz.isAgg268
 z175 := Tryz.sizeOf268
 v175 := Tryz.zeroValue268
 t210 := Tryz.underlying272
 a210 := Tryz.isAgg272
 z210 := Tryz.sizeOf272
 v210 := Tryz.zeroValue272
 t212 := Tryz.underlying255
 a212 := Tryz.isAgg255
 z212 := Tryz.sizeOf255
 v212 := Tryz.zeroValue255
 t213 := Tryz.underlying256
 a213 := Tryz.isAgg256
 z213 := Tryz.sizeOf256
 t232 := Tryz.underlying276
 a232 := Tryz.isAgg276
 z232 := Tryz.sizeOf276
 v232 := Tryz.zeroValue276
 t233 := Tryz.underlying277
 a233 := Tryz.isAgg277
 z233 := Tryz.sizeOf277
 v233 := Tryz.zeroValue277
 g15 := by kernel_rfl
 g16 := by kernel_rfl
 g17 := by kernel_rfl
 g18 := by kernel_rfl
 g19 := by kernel_rfl
 t80 := Tryz.underlying137
 a80 := Tryz.isAgg137
 z80 := Tryz.sizeOf137
 v80 := Tryz.zeroValue137
 i0 := by kernel_rfl
 i2 := by kernel_rfl
 i3 := by kernel_rfl
 i4 := by kernel_rfl
 i5 := by kernel_rfl
 i9 := by kernel_rfl
 i20 := by kernel_rfl
 i21 := by kernel_rfl
 i37 := by kernel_rfl
 i46 := by kernel_rfl
 i51 := by kernel_rfl
 i53 := by kernel_rfl
 i75 := by kernel_rfl
 i76 := by kernel_rfl
 i80 := by kernel_rfl
 i85 := by kernel_rfl
 i127 := by kernel_rfl
 i143 := by kernel_rfl
 i145 := by kernel_rfl
 i167 := by kernel_rfl
 i168 := by kernel_rfl
 i171 := by kernel_rfl
 i173 := by kernel_rfl
 i175 := by kernel_rfl
 i210 := by kernel_rfl
 i212 := by kernel_rfl
 i232 := by kernel_rfl
 i233 := by kernel_rfl
 m15 := by kernel_rfl
 m16 := by kernel_rfl
 m17 := by kernel_rfl
 m18 := by kernel_rfl
 m19 := by kernel_rfl
 c0 := by kernel_rfl
 c2 := by kernel_rfl
 c3 := by kernel_rfl
 c4 := by kernel_rfl
 c5 := by kernel_rfl
 c9 := by kernel_rfl
 c20 := by kernel_rfl
 c21 := by kernel_rfl
 c37 := by kernel_rfl
 c46 := by kernel_rfl
 c51 := by kernel_rfl
 c53 := by kernel_rfl
 c75 := by kernel_rfl
 c76 := by kernel_rfl
 c80 := by kernel_rfl
 c85 := by kernel_rfl
 c127 := by kernel_rfl
 c143 := by kernel_rfl
 c145 := by kernel_rfl
 c167 := by kernel_rfl
 c168 := by kernel_rfl
 c171 := by kernel_rfl
 c173 := by kernel_rfl
 c175 := by kernel_rfl
 c210 := by kernel_rfl
 c212 := by kernel_rfl
 c213 := by kernel_rfl
 c232 := by kernel_rfl
 c233 := by kernel_rfl }
open Go.RowKit in
theorem Tryz.strconv_Atoi_ok (s : ByteArray) (hmax : s.size ≤ 9223372036854775806) (v : Int) (h : Lib.atoiAll s.data.toList = .ok v) (w : World) :
 Calls Tryz.prog 203 #[.string s] w fun e w' => e = .returned (.tuple #[.int .i64 v, .nilIface]) ∧ (w' = w ∨ ∃ t, w' = Lib.bytesWorld w 5 t) := Any.strconv_Atoi_ok Tryz.laysC172 s hmax v h w
open Go.RowKit in
theorem Tryz.strconv_Atoi_syntax_var (s : ByteArray) (hlim : s.size ≤ 281474976710656) (h : Lib.atoiAll s.data.toList = .«syntax») (tp : TypeId) (p : Value) (w : World) (hvar : w.var? Tryz.prog "strconv.ErrSyntax" = some #[.iface tp p]) :
 Calls Tryz.prog 203 #[.string s] w fun e w' => ∃ N, e = .returned (.tuple #[.int .i64 0, .iface 261 (.pointer (some ⟨N, 0, none⟩))]) ∧ w.heap.size ≤ N ∧ w'.heap[N]? = some (.cells #[.string ⟨#[65, 116, 111, 105]⟩, .string s, .iface tp p] 272 (0, 0)) ∧ Below w.heap.size w w' := Any.strconv_Atoi_syntax_var Tryz.laysC172 s hlim h tp p w hvar
open Go.RowKit in
theorem Tryz.strconv_Atoi_range_var (s : ByteArray) (hlim : s.size ≤ 281474976710656) (h : Lib.atoiAll s.data.toList = .range) (tp : TypeId) (p : Value) (w : World) (hvar : w.var? Tryz.prog "strconv.ErrRange" = some #[.iface tp p]) :
 Calls Tryz.prog 203 #[.string s] w fun e w' => ∃ N, e = .returned (.tuple #[.int .i64 (Lib.atoiSat s.data.toList), .iface 261 (.pointer (some ⟨N, 0, none⟩))]) ∧ w.heap.size ≤ N ∧ w'.heap[N]? = some (.cells #[.string ⟨#[65, 116, 111, 105]⟩, .string s, .iface tp p] 272 (0, 0)) ∧ Below w.heap.size w w' := Any.strconv_Atoi_range_var Tryz.laysC172 s hlim h tp p w hvar
def Tryz.lays219_ren : Go.Shelf.Ren := ⟨fun | 219 => 233 | 217 => 215 | 225 => 242 | 224 => 243 | 267 => 244 | 266 => 227 | 314 => 250 | n => n, fun | 9 => 9 | 3 => 3 | 4 => 4 | 5 => 5 | 46 => 153 | 146 => 182 | 51 => 181 | n => n, fun | 1 => 2 | n => n⟩
def Tryz.lays144_ren : Go.Shelf.Ren := ⟨fun | 144 => 204 | 143 => 218 | 219 => 233 | 217 => 215 | 225 => 242 | 224 => 243 | 267 => 244 | 266 => 227 | 314 => 250 | n => n, fun | 9 => 9 | 4 => 4 | 3 => 3 | 5 => 5 | 46 => 153 | 146 => 182 | 51 => 181 | n => n, fun | 1 => 2 | n => n⟩
theorem Tryz.lays144 : Go.Proofs.Lays.n144 Tryz.prog Tryz.lays144_ren := {
 mixed := by kernel_rfl
 f143 := Tryz.func218.trans (congrArg some (by kernel_rfl))
 f144 := Tryz.func204.trans (congrArg some (by kernel_rfl))
 f217 := Tryz.func215.trans (congrArg some (by kernel_rfl))
 f219 := Tryz.func233.trans (congrArg some (by kernel_rfl))
 f224 := Tryz.func243.trans (congrArg some (by kernel_rfl))
 f225 := Tryz.func242.trans (congrArg some (by kernel_rfl))
 f266 := Tryz.func227.trans (congrArg some (by kernel_rfl))
 f267 := Tryz.func244.trans (congrArg some (by kernel_rfl))
 f314 := Tryz.func250.trans (congrArg some (by kernel_rfl))
 t3 := Tryz.underlying3
 a3 := Tryz.isAgg3
 z3 := Tryz.sizeOf3
 v3 := Tryz.zeroValue3
 t4 := Tryz.underlying4
 a4 := Tryz.isAgg4
 z4 := Tryz.sizeOf4
 v4 := Tryz.zeroValue4
 t5 := Tryz.underlying5
 a5 := Tryz.isAgg5
 z5 := Tryz.sizeOf5
 v5 := Tryz.zeroValue5
 t9 := Tryz.underlying9
 a9 := Tryz.isAgg9
 z9 := Tryz.sizeOf9
 v9 := Tryz.zeroValue9
 t46 := Tryz.underlying153
 a46 := Tryz.isAgg153
 z46 := Tryz.sizeOf153
 v46 := Tryz.zeroValue153
 t51 := Tryz.underlying181
 a51 := Tryz.isAgg181
 z51 := Tryz.sizeOf181
 v51 := Tryz.zeroValue181
 t146 := Tryz.underlying182
 a146 := Tryz.isAgg182
 z146 := Tryz.sizeOf182
 v146 := Tryz.zeroValue182
 g1 := by kernel_rfl }
open Go.RowKit Go.Lib in
theorem Tryz.strings_Contains_one (s : ByteArray) (c : UInt8) (w : World) :
 Calls Tryz.prog 204 #[.string s, .string ⟨#[c]⟩] w fun e w' => e = .returned (.bool (decide (0 ≤ Lib.indexByte s.data.toList c))) ∧ w' = w := Any.strings_Contains_one Tryz.lays144 s c w
def Tryz.lays154_ren : Go.Shelf.Ren := ⟨fun | 154 => 246 | 138 => 252 | 165 => 221 | 143 => 218 | 166 => 169 | 197 => 253 | 169 => 113 | 195 => 254 | 218 => 255 | 240 => 199 | 241 => 236 | 219 => 233 | 260 => 256 | 276 => 208 | 277 => 247 | 217 => 215 | 225 => 242 | 224 => 243 | 267 => 244 | 266 => 227 | 314 => 250 | n => n, fun | 9 => 9 | 3 => 3 | 4 => 4 | 72 => 166 | 0 => 0 | 76 => 226 | 105 => 283 | 21 => 21 | 5 => 5 | 70 => 163 | 20 => 20 | 37 => 164 | 75 => 224 | 127 => 193 | 164 => 241 | 46 => 153 | 119 => 285 | 139 => 288 | 138 => 287 | 146 => 182 | 51 => 181 | 80 => 137 | n => n, fun | 1 => 2 | 3 => 7 | 4 => 8 | n => n⟩
def Tryz.lays155_ren : Go.Shelf.Ren := ⟨fun | 155 => 235 | 154 => 246 | 138 => 252 | 165 => 221 | 143 => 218 | 166 => 169 | 197 => 253 | 169 => 113 | 195 => 254 | 218 => 255 | 240 => 199 | 241 => 236 | 219 => 233 | 260 => 256 | 276 => 208 | 277 => 247 | 217 => 215 | 225 => 242 | 224 => 243 | 267 => 244 | 266 => 227 | 314 => 250 | n => n, fun | 9 => 9 | 3 => 3 | 4 => 4 | 72 => 166 | 0 => 0 | 76 => 226 | 105 => 283 | 21 => 21 | 5 => 5 | 70 => 163 | 20 => 20 | 37 => 164 | 75 => 224 | 127 => 193 | 164 => 241 | 46 => 153 | 119 => 285 | 139 => 288 | 138 => 287 | 146 => 182 | 51 => 181 | 80 => 137 | n => n, fun | 1 => 2 | 3 => 7 | 4 => 8 | n => n⟩
theorem Tryz.lays155 : Go.Proofs.Lays.n155 Tryz.prog Tryz.lays155_ren := {
 mixed := by kernel_rfl
 f138 := Tryz.func252.trans (congrArg some (by kernel_rfl))
 f143 := Tryz.func218.trans (congrArg some (by kernel_rfl))
 f154 := Tryz.func246.trans (congrArg some (by kernel_rfl))
 f155 := Tryz.func235.trans (congrArg some (by kernel_rfl))
 f165 := Tryz.func221.trans (congrArg some (by kernel_rfl))
 f166 := Tryz.func169.trans (congrArg some (by kernel_rfl))
 f169 := Tryz.func113.trans (congrArg some (by kernel_rfl))
 f195 := Tryz.func254.trans (congrArg some (by kernel_rfl))
 f197 := Tryz.func253.trans (congrArg some (by kernel_rfl))
 f217 := Tryz.func215.trans (congrArg some (by kernel_rfl))
 f218 := Tryz.func255.trans (congrArg some (by kernel_rfl))
 f219 := Tryz.func233.trans (congrArg some (by kernel_rfl))
 f224 := Tryz.func243.trans (congrArg some (by kernel_rfl))
 f225 := Tryz.func242.trans (congrArg some (by kernel_rfl))
 f240 := Tryz.func199.trans (congrArg some (by kernel_rfl))
 f241 := Tryz.func236.trans (congrArg some (by kernel_rfl))
 f260 := Tryz.func256.trans (congrArg some (by kernel_rfl))
 f266 := Tryz.func227.trans (congrArg some (by kernel_rfl))
 f267 := Tryz.func244.trans (congrArg some (by kernel_rfl))
 f276 := Tryz.func208.trans (congrArg some (by kernel_rfl))
 f277 := Tryz.func247.trans (congrArg some (by kernel_rfl))
 f314 := Tryz.func250.trans (congrArg some (by kernel_rfl))
 t0 := Tryz.underlying0
 a0 := Tryz.isAgg0
 z0 := Tryz.sizeOf0
 v0 := Tryz.zeroValue0
 t3 := Tryz.underlying3
 a3 := Tryz.isAgg3
 z3 := Tryz.sizeOf3
 v3 := Tryz.zeroValue3
 t4 := Tryz.underlying4
 a4 := Tryz.isAgg4
 z4 := Tryz.sizeOf4
 v4 := Tryz.zeroValue4
 t5 := Tryz.underlying5
 a5 := Tryz.isAgg5
 z5 := Tryz.sizeOf5
 v5 := Tryz.zeroValue5
 t9 := Tryz.underlying9
 a9 := Tryz.isAgg9
 z9 := Tryz.sizeOf9
 v9 := Tryz.zeroValue9
 t20 := Tryz.underlying20
 a20 := Tryz.isAgg20
 z20 := Tryz.sizeOf20
 v20 := Tryz.zeroValue20
 t21 := Tryz.underlying21
 a21 := Tryz.isAgg21
 z21 := Tryz.sizeOf21
 v21 := Tryz.zeroValue21
 t37 := Tryz.underlying164
 a37 := Tryz.isAgg164
 z37 := Tryz.sizeOf164
 v37 := Tryz.zeroValue164
 t46 := Tryz.underlying153
 a46 := Tryz.isAgg153
 z46 := Tryz.sizeOf153
 v46 := Tryz.zeroValue153
 t51 := Tryz.underlying181
 a51 := Tryz.isAgg181
 z51 := Tryz.sizeOf181
 v51 := Tryz.zeroValue181
 t70 := Tryz.underlying163
 a70 := Tryz.isAgg163
 z70 := Tryz.sizeOf163
 v70 := Tryz.zeroValue163
 t72 := Tryz.underlying166
 a72 := Tryz.isAgg166
 z72 := Tryz.sizeOf166
 v72 := Tryz.zeroValue166
 t75 := Tryz.underlying224
 a75 := Tryz.isAgg224
 z75 := Tryz.sizeOf224
 v75 := Tryz.zeroValue224
 t76 := Tryz.underlying226
 a76 := Tryz.isAgg226
 z76 := Tryz.sizeOf226
 v76 := Tryz.zeroValue226
 t105 := Tryz.underlying283
 a105 := Tryz.isAgg283
 z105 := Tryz.sizeOf283
 v105 := Tryz.zeroValue283
 t119 := Tryz.underlying285
 a119 := Tryz.isAgg285
 z119 := Tryz.sizeOf285
 t127 := Tryz.underlying193
 a127 := Tryz.isAgg193
 z127 := Tryz.sizeOf193
 v127 := Tryz.zeroValue193
 t138 := Tryz.underlying287
 a138 := Tryz.isAgg287
 z138 := Tryz.sizeOf287
 v138 := Tryz.zeroValue287
 t139 := Tryz.underlying288
 a139 := Tryz.isAgg288
 z139 := Tryz.sizeOf288
 v139 := Tryz.zeroValue288
 t146 := Tryz.underlying182
 a146 := Tryz.isAgg182
 z146 := Tryz.sizeOf182
 v146 := Tryz.zeroValue182
 t164 := Tryz.underlying241
 a164 := Tryz.isAgg241
 z164 := Tryz.sizeOf241
 v164 := Tryz.zeroValue241
 g1 := by kernel_rfl
 g3 := by kernel_rfl
 g4 := by kernel_rfl }
theorem Tryz.Builder_Extra_155 : Builder.Extra Tryz.prog Tryz.lays155_ren := {
 sizeBuilder := by kernel_rfl
 liesBuilder := by kernel_rfl
 t5 := Tryz.underlying5
 a5 := Tryz.isAgg5
 z5 := Tryz.sizeOf5
 v5 := Tryz.zeroValue5
 infoByte := by kernel_rfl
 cellsByte := by kernel_rfl
 sizeByte := by kernel_rfl
 neB5 := by decide }
open Go.RowKit Go.Lib in
theorem Tryz.strings_ReplaceAll (s old new : ByteArray) (m : Int) (w : World) (hs : s.size < 4294967281) (hm : w.cell? ⟨2, 0, none⟩ = some (.int .i64 m)) (h1 : 1 ≤ old.size) (hlen : s.size + Lib.countB s old * new.size ≤ 140737488355328) :
 Calls Tryz.prog 235 #[.string s, .string old, .string new] w fun e w' =>
  e = .returned (.string ⟨(Lib.replaceAll s.data.toList old.data.toList new.data.toList).toArray⟩) ∧ Below w.heap.size w w' := Any.strings_ReplaceAll Tryz.lays155 Tryz.Builder_Extra_155 s old new m w hs hm h1 hlen
def Tryz.laysM155_ren : Go.Shelf.Ren := ⟨fun | 155 => 235 | 154 => 246 | 138 => 252 | 165 => 221 | 143 => 218 | 166 => 169 | 197 => 253 | 169 => 113 | 195 => 254 | 218 => 255 | 240 => 199 | 241 => 236 | 219 => 233 | 260 => 256 | 276 => 208 | 277 => 247 | 217 => 215 | 225 => 242 | 224 => 243 | 267 => 244 | 266 => 227 | 314 => 250 | n => n, fun | 9 => 9 | 3 => 3 | 4 => 4 | 72 => 166 | 0 => 0 | 76 => 226 | 105 => 283 | 21 => 21 | 5 => 5 | 70 => 163 | 20 => 20 | 37 => 164 | 75 => 224 | 127 => 193 | 164 => 241 | 46 => 153 | 119 => 285 | 139 => 288 | 138 => 287 | 146 => 182 | 51 => 181 | 80 => 137 | n => n, fun | 1 => 2 | 3 => 7 | 4 => 8 | n => n⟩
theorem Tryz.laysM155 : Go.Proofs.LaysM.n155 Tryz.prog Tryz.laysM155_ren := {
 mixed := by kernel_rfl
 f138 := Tryz.func252.trans (congrArg some (by kernel_rfl))
 f143 := Tryz.func218.trans (congrArg some (by kernel_rfl))
 f154 := Tryz.func246.trans (congrArg some (by kernel_rfl))
 f155 := Tryz.func235.trans (congrArg some (by kernel_rfl))
 f165 := Tryz.func221.trans (congrArg some (by kernel_rfl))
 f166 := Tryz.func169.trans (congrArg some (by kernel_rfl))
 f169 := Tryz.func113.trans (congrArg some (by kernel_rfl))
 f195 := Tryz.func254.trans (congrArg some (by kernel_rfl))
 f197 := Tryz.func253.trans (congrArg some (by kernel_rfl))
 f217 := Tryz.func215.trans (congrArg some (by kernel_rfl))
 f218 := Tryz.func255.trans (congrArg some (by kernel_rfl))
 f219 := Tryz.func233.trans (congrArg some (by kernel_rfl))
 f224 := Tryz.func243.trans (congrArg some (by kernel_rfl))
 f225 := Tryz.func242.trans (congrArg some (by kernel_rfl))
 f240 := Tryz.func199.trans (congrArg some (by kernel_rfl))
 f241 := Tryz.func236.trans (congrArg some (by kernel_rfl))
 f260 := Tryz.func256.trans (congrArg some (by kernel_rfl))
 f266 := Tryz.func227.trans (congrArg some (by kernel_rfl))
 f267 := Tryz.func244.trans (congrArg some (by kernel_rfl))
 f276 := Tryz.func208.trans (congrArg some (by kernel_rfl))
 f277 := Tryz.func247.trans (congrArg some (by kernel_rfl))
 f314 := Tryz.func250.trans (congrArg some (by kernel_rfl))
 t0 := Tryz.underlying0
 a0 := Tryz.isAgg0
 z0 := Tryz.sizeOf0
 v0 := Tryz.zeroValue0
 t3 := Tryz.underlying3
 a3 := Tryz.isAgg3
 z3 := Tryz.sizeOf3
 v3 := Tryz.zeroValue3
 t4 := Tryz.underlying4
 a4 := Tryz.isAgg4
 z4 := Tryz.sizeOf4
 v4 := Tryz.zeroValue4
 t5 := Tryz.underlying5
 a5 := Tryz.isAgg5
 z5 := Tryz.sizeOf5
 v5 := Tryz.zeroValue5
 t9 := Tryz.underlying9
 a9 := Tryz.isAgg9
 z9 := Tryz.sizeOf9
 v9 := Tryz.zeroValue9
 t20 := Tryz.underlying20
 a20 := Tryz.isAgg20
 z20 := Tryz.sizeOf20
 v20 := Tryz.zeroValue20
 t21 := Tryz.underlying21
 a21 := Tryz.isAgg21
 z21 := Tryz.sizeOf21
 v21 := Tryz.zeroValue21
 t37 := Tryz.underlying164
 a37 := Tryz.isAgg164
 z37 := Tryz.sizeOf164
 v37 := Tryz.zeroValue164
 t46 := Tryz.underlying153
 a46 := Tryz.isAgg153
 z46 := Tryz.sizeOf153
 v46 := Tryz.zeroValue153
 t51 := Tryz.underlying181
 a51 := Tryz.isAgg181
 z51 := Tryz.sizeOf181
 v51 := Tryz.zeroValue181
 t70 := Tryz.underlying163
 a70 := Tryz.isAgg163
 z70 := Tryz.sizeOf163
 v70 := Tryz.zeroValue163
 t72 := Tryz.underlying166
 a72 := Tryz.isAgg166
 z72 := Tryz.sizeOf166
 v72 := Tryz.zeroValue166
 t75 := Tryz.underlying224
 a75 := Tryz.isAgg224
 z75 := Tryz.sizeOf224
 v75 := Tryz.zeroValue224
 t76 := Tryz.underlying226
 a76 := Tryz.isAgg226
 z76 := Tryz.sizeOf226
 v76 := Tryz.zeroValue226
 t105 := Tryz.underlying283
 a105 := Tryz.isAgg283
 z105 := Tryz.sizeOf283
 v105 := Tryz.zeroValue283
 t119 := Tryz.underlying285
 a119 := Tryz.isAgg285
 z119 := Tryz.sizeOf285
 t127 := Tryz.underlying193
 a127 := Tryz.isAgg193
 z127 := Tryz.sizeOf193
 v127 := Tryz.zeroValue193
 t138 := Tryz.underlying287
 a138 := Tryz.isAgg287
 z138 := Tryz.sizeOf287
 v138 := Tryz.zeroValue287
 t139 := Tryz.underlying288
 a139 := Tryz.isAgg288
 z139 := Tryz.sizeOf288
 v139 := Tryz.zeroValue288
 t146 := Tryz.underlying182
 a146 := Tryz.isAgg182
 z146 := Tryz.sizeOf182
 v146 := Tryz.zeroValue182
 t164 := Tryz.underlying241
 a164 := Tryz.isAgg241
 z164 := Tryz.sizeOf241
 v164 := Tryz.zeroValue241
 g1 := by kernel_rfl
 g3 := by kernel_rfl
 g4 := by kernel_rfl
 t80 := Tryz.underlying137
 a80 := Tryz.isAgg137
 z80 := Tryz.sizeOf137
 v80 := Tryz.zeroValue137
 i0 := by kernel_rfl
 i3 := by kernel_rfl
 i4 := by kernel_rfl
 i5 := by kernel_rfl
 i9 := by kernel_rfl
 i20 := by kernel_rfl
 i21 := by kernel_rfl
 i37 := by kernel_rfl
 i46 := by kernel_rfl
 i51 := by kernel_rfl
 i70 := by kernel_rfl
 i72 := by kernel_rfl
 i75 := by kernel_rfl
 i76 := by kernel_rfl
 i80 := by kernel_rfl
 i105 := by kernel_rfl
 i127 := by kernel_rfl
 i138 := by kernel_rfl
 i139 := by kernel_rfl
 i146 := by kernel_rfl
 i164 := by kernel_rfl
 m1 := by kernel_rfl
 s1_3 := fun w h => Go.Proofs.cell_of_shapedOpen_int (zero := #[.int .i64 0]) (t := 3) h (of_decide_eq_true (by kernel_rfl)) (by kernel_rfl) rfl (by kernel_rfl) (by kernel_rfl) Tryz.underlying3
 m3 := by kernel_rfl
 m4 := by kernel_rfl }
def Tryz.lays212_ren : Go.Shelf.Ren := ⟨fun | 212 => 102 | 263 => 121 | 264 => 122 | n => n, fun | 46 => 153 | 51 => 181 | 146 => 182 | 53 => 126 | 148 => 184 | n => n, fun | n => n⟩
theorem Tryz.lays212 : Go.Proofs.Lays.n212 Tryz.prog Tryz.lays212_ren := {
 mixed := by kernel_rfl
 f212 := Tryz.func102.trans (congrArg some (by kernel_rfl))
 f263 := Tryz.func121.trans (congrArg some (by kernel_rfl))
 f264 := Tryz.func122.trans (congrArg some (by kernel_rfl))
 t46 := Tryz.underlying153
 a46 := Tryz.isAgg153
 z46 := Tryz.sizeOf153
 v46 := Tryz.zeroValue153
 t51 := Tryz.underlying181
 a51 := Tryz.isAgg181
 z51 := Tryz.sizeOf181
 v51 := Tryz.zeroValue181
 t53 := Tryz.underlying126
 a53 := Tryz.isAgg126
 z53 := Tryz.sizeOf126
 v53 := Tryz.zeroValue126
 t146 := Tryz.underlying182
 a146 := Tryz.isAgg182
 z146 := Tryz.sizeOf182
 v146 := Tryz.zeroValue182
 t148 := Tryz.underlying184
 a148 := Tryz.isAgg184
 z148 := Tryz.sizeOf184
 v148 := Tryz.zeroValue184 }
open Go.RowKit Go.Lib in
theorem Tryz.bits_Mul (x y : Nat) (hx : x < 18446744073709551616) (hy : y < 18446744073709551616) (w : World) :
 Calls Tryz.prog 102 #[.int .u64 x, .int .u64 y] w fun e w' => e = .returned (.tuple #[.int .u64 ((x * y / 18446744073709551616 : Nat) : Int), .int .u64 ((x * y % 18446744073709551616 : Nat) : Int)]) ∧ w' = w := Any.bits_Mul Tryz.lays212 x y hx hy w
def Tryz.lays107_ren : Go.Shelf.Ren := ⟨fun | 107 => 68 | 108 => 101 | n => n, fun | 28 => 33 | 3 => 3 | 4 => 4 | 0 => 0 | n => n, fun | n => n⟩
theorem Tryz.lays107 : Go.Proofs.Lays.n107 Tryz.prog Tryz.lays107_ren := {
 mixed := by kernel_rfl
 f107 := Tryz.func68.trans (congrArg some (by kernel_rfl))
 f108 := Tryz.func101.trans (congrArg some (by kernel_rfl))
 t0 := Tryz.underlying0
 a0 := Tryz.isAgg0
 z0 := Tryz.sizeOf0
 v0 := Tryz.zeroValue0
 t3 := Tryz.underlying3
 a3 := Tryz.isAgg3
 z3 := Tryz.sizeOf3
 v3 := Tryz.zeroValue3
 t4 := Tryz.underlying4
 a4 := Tryz.isAgg4
 z4 := Tryz.sizeOf4
 v4 := Tryz.zeroValue4
 t28 := Tryz.underlying33
 a28 := Tryz.isAgg33
 z28 := Tryz.sizeOf33
 v28 := Tryz.zeroValue33 }
open Go.Lib in
theorem Tryz.slices_Contains_int (b off n c : Nat) (zs : List Int) (x : Int) (w : World) (hz : n ≤ zs.length) (hbig : n ≤ 9223372036854775807) (hc : ∀ j, j < zs.length → w.cell? ⟨b, off + j, none⟩ = some (.int .i64 (zs.getD j 0))) :
 Calls Tryz.prog 68 #[.slice (some ⟨b, off, none⟩) n c, .int .i64 x] w fun e w' => e = .returned (.bool ((zs.take n).contains x)) ∧ w' = w := Any.slices_Contains_int Tryz.lays107 b off n c zs x w hz hbig hc
def Tryz.lays109_ren : Go.Shelf.Ren := ⟨fun | 109 => 183 | n => n, fun | 31 => 100 | 9 => 9 | 3 => 3 | 0 => 0 | 4 => 4 | n => n, fun | n => n⟩
theorem Tryz.lays109 : Go.Proofs.Lays.n109 Tryz.prog Tryz.lays109_ren := {
 mixed := by kernel_rfl
 f109 := Tryz.func183.trans (congrArg some (by kernel_rfl))
 t0 := Tryz.underlying0
 a0 := Tryz.isAgg0
 z0 := Tryz.sizeOf0
 v0 := Tryz.zeroValue0
 t3 := Tryz.underlying3
 a3 := Tryz.isAgg3
 z3 := Tryz.sizeOf3
 v3 := Tryz.zeroValue3
 t4 := Tryz.underlying4
 a4 := Tryz.isAgg4
 z4 := Tryz.sizeOf4
 v4 := Tryz.zeroValue4
 t9 := Tryz.underlying9
 a9 := Tryz.isAgg9
 z9 := Tryz.sizeOf9
 v9 := Tryz.zeroValue9
 t31 := Tryz.underlying100
 a31 := Tryz.isAgg100
 z31 := Tryz.sizeOf100
 v31 := Tryz.zeroValue100 }
open Go.Lib in
theorem Tryz.slices_Index_string (b off n c : Nat) (zs : List ByteArray) (x : ByteArray) (w : World) (hz : n ≤ zs.length) (hbig : n ≤ 9223372036854775807) (hc : ∀ j, j < zs.length → w.cell? ⟨b, off + j, none⟩ = some (.string (zs.getD j ByteArray.empty))) :
 Calls Tryz.prog 183 #[.slice (some ⟨b, off, none⟩) n c, .string x] w fun e w' => e = .returned (.int .i64 (Lib.idxOfS (zs.take n) x)) ∧ w' = w := Any.slices_Index_string Tryz.lays109 b off n c zs x w hz hbig hc
end Go.Proofs
namespace Go.Proofs.YtamekagminbejaaGreatDoor
open Go Go.RowKit
set_option maxRecDepth 100000
theorem cat_run (w : World) (x y : List UInt8) (h : x.length + y.length ≤ 10000000) : (Op.stringOp .add ⟨x.toArray⟩ ⟨y.toArray⟩).run Tryz.prog w = .ok (.string ⟨(x ++ y).toArray⟩) w := by
 rw [run_string_add_sum w ⟨x.toArray⟩ ⟨y.toArray⟩ (by show x.toArray.size + y.toArray.size ≤ _; simp; omega)]
 congr 2
set_option maxHeartbeats 400000 in
theorem text_text (x : Val) (m : Int) (w : World) (hk0 : (x.k == 0) = false) (hk1 : (x.k == 1) = false) (hk2 : (x.k == 2) = false) (hk : (x.k == 3) = true) (hs : x.s.size ≤ 2000) (hm : w.cell? ⟨2, 0, none⟩ = some (.int .i64 m)) :
 Calls Tryz.prog 220 #[x.v] w fun e w' => e = .returned (.string ⟨([39] ++ sub1 39 [39, 39] x.s.data.toList ++ [39]).toArray⟩) ∧ Below w.heap.size w w' := by
 have hlt : 2 < w.heap.size := World.block_lt_of_cell? _ _ hm
 have hr := replaceAll_sub1 39 [39, 39] x.s.data.toList (by simp)
 have hlen := sub1_length 39 [39, 39] x.s.data.toList
 have hsz : x.s.data.toList.length = x.s.size := rfl
 rw [hsz] at hlen
 generalize sub1 39 [39, 39] x.s.data.toList = r at hr hlen ⊢
 have Hr := Lib.hid hr
 have hcnt : x.s.size + Lib.countB x.s ⟨#[39]⟩ * 2 ≤ 140737488355328 := by
  have := Lib.countB_mul_le ⟨#[39]⟩ (by decide) x.s.size x.s (Nat.le_refl _)
  have e1 : (⟨#[39]⟩ : ByteArray).size = 1 := rfl
  rw [e1] at this
  omega
 have c1 : ∀ w, (Op.stringOp .add ⟨#[39]⟩ ⟨r.toArray⟩).run Tryz.prog w = .ok (.string ⟨([39] ++ r).toArray⟩) w := fun w => cat_run w [39] r (by simp only [List.length_cons, List.length_nil] at hlen ⊢; omega)
 have c2 : ∀ w, (Op.stringOp .add ⟨([39] ++ r).toArray⟩ ⟨#[39]⟩).run Tryz.prog w = .ok (.string ⟨([39] ++ r ++ [39]).toArray⟩) w := fun w => cat_run w ([39] ++ r) [39] (by simp only [List.length_append, List.length_cons, List.length_nil] at hlen ⊢; omega)
 clear hr hsz hlen
 generalize ([39] ++ r) = r1 at c1 c2 ⊢
 generalize (r1 ++ [39]) = r2 at c2 ⊢
 go_enter Tryz.func220, Tryz.ntmps220
 go_wp2_with fail
 refine (Tryz.strings_ReplaceAll _ _ _ m _ (by omega) ?_ (by decide) hcnt).mono ?_
 · rw [World.cell?_alloc_past _ _ _ hlt]; exact hm
 rintro e w1 ⟨rfl, hb1⟩
 have e1 : Lib.replaceAll x.s.data.toList (⟨#[39]⟩ : ByteArray).data.toList (⟨#[39, 39]⟩ : ByteArray).data.toList = r := Hr.out
 rw [e1]
 clear e1
 have hb : Below w.heap.size w w1 := (below_one _ _).trans (hb1.mono (by simp))
 clear hb1 hcnt
 go_wp2
 go_ret
 exact ⟨rfl, hb⟩
theorem below_grow (w : World) (k : Nat) (os : Array Obj) : Below w.heap.size w (Sort.grow (w.drewN k) os) :=
 ⟨rfl, rfl, rfl, by show w.heap.size ≤ (w.heap ++ os).size; simp, fun i hi => by
   show (w.heap ++ os)[i]? = w.heap[i]?
   rw [Array.getElem?_append_left hi]⟩
def Tab (w : World) : Prop := Lib.TabIs Tryz.prog w "internal/strconv.uint64pow10" .u64 Lib.pow10Tab
theorem Tab.after {w w' : World} (h : Tab w) (hb : Below w.heap.size w w') (hg : 1 < w.heap.size) : Tab w' := by
 unfold Tab Lib.TabIs at *
 have hn : Tryz.prog.globalNamed "internal/strconv.uint64pow10" = some 1 := by kernel_rfl
 have e : w'.var? Tryz.prog "internal/strconv.uint64pow10" = w.var? Tryz.prog "internal/strconv.uint64pow10" := by
  unfold World.var?
  rw [hn]
  simp only [Option.bind_some, hb.block _ hg]
 rw [e]
 exact h
set_option maxHeartbeats 400000 in
theorem text_null (x : Val) (w : World) (h : (x.k == 0) = true) : Calls Tryz.prog 220 #[x.v] w fun e w' => e = .returned (.string ⟨#[110, 117, 108, 108]⟩) ∧ Below w.heap.size w w' := by
 go_enter Tryz.func220, Tryz.ntmps220
 go_wp2
 go_ret
 exact ⟨rfl, below_one _ _⟩
set_option maxHeartbeats 400000 in
theorem text_false (x : Val) (w : World) (h0 : (x.k == 0) = false) (h : (x.k == 1) = true) (hn : (x.n == 0) = true) : Calls Tryz.prog 220 #[x.v] w fun e w' => e = .returned (.string ⟨#[102, 97, 108, 115, 101]⟩) ∧ Below w.heap.size w w' := by
 go_enter Tryz.func220, Tryz.ntmps220
 go_wp2
 go_ret
 exact ⟨rfl, below_one _ _⟩
set_option maxHeartbeats 400000 in
theorem text_true (x : Val) (w : World) (h0 : (x.k == 0) = false) (h : (x.k == 1) = true) (hn : (x.n == 0) = false) : Calls Tryz.prog 220 #[x.v] w fun e w' => e = .returned (.string ⟨#[116, 114, 117, 101]⟩) ∧ Below w.heap.size w w' := by
 go_enter Tryz.func220, Tryz.ntmps220
 go_wp2
 go_ret
 exact ⟨rfl, below_one _ _⟩
set_option maxHeartbeats 400000 in
theorem text_int (x : Val) (w : World) (h0 : (x.k == 0) = false) (h1 : (x.k == 1) = false) (h : (x.k == 2) = true) (hn : -9223372036854775808 ≤ x.n ∧ x.n ≤ 9223372036854775807) (hT : Tab w) (hg : 1 < w.heap.size) :
 Calls Tryz.prog 220 #[x.v] w fun e w' => e = .returned (.string ⟨(Lib.itoa x.n).toArray⟩) ∧ Below w.heap.size w w' := by
 have HT := Lib.hid hT
 have Hn := Lib.hid hn
 clear hT hn
 go_enter Tryz.func220, Tryz.ntmps220
 go_wp2_with fail
 refine (Tryz.strconv_Itoa _ Hn.out.1 Hn.out.2 _ (HT.out.after (below_one _ _) hg)).mono ?_
 rintro e w1 ⟨rfl, k, os, hw1⟩
 have hb : Below w.heap.size w w1 := by
  rw [hw1]
  exact (below_one w _).trans ((below_grow _ k os).mono (by simp))
 clear hw1
 go_wp2
 go_ret
 exact ⟨rfl, hb⟩
set_option maxHeartbeats 400000 in
theorem text_other (x : Val) (w : World) (h0 : (x.k == 0) = false) (h1 : (x.k == 1) = false) (h2 : (x.k == 2) = false) (h3 : (x.k == 3) = false) : Calls Tryz.prog 220 #[x.v] w fun e w' => e = .returned (.string ⟨#[63]⟩) ∧ Below w.heap.size w w' := by
 go_enter Tryz.func220, Tryz.ntmps220
 go_wp2
 go_ret
 exact ⟨rfl, below_one _ _⟩
structure Gl (w : World) : Prop where
 m : ∃ m : Int, w.cell? ⟨2, 0, none⟩ = some (.int .i64 m)
 tab : Tab w
 lt : 1 < w.heap.size
theorem Gl.after {w w' : World} (h : Gl w) (hb : Below w.heap.size w w') : Gl w' := by
 obtain ⟨⟨m, hm⟩, hT, hl⟩ := h
 exact ⟨⟨m, (hb.cell (World.block_lt_of_cell? _ _ hm)).trans hm⟩, hT.after hb hl, Nat.lt_of_lt_of_le hl hb.size⟩
theorem text_c (x : Val) (w : World) (hn : -9223372036854775808 ≤ x.n ∧ x.n ≤ 9223372036854775807) (hs : x.s.size ≤ 2000) (hG : Gl w) :
 Calls Tryz.prog 220 #[x.v] w fun e w' => e = .returned (.string ⟨(textL x).toArray⟩) ∧ Below w.heap.size w w' := by
 obtain ⟨⟨m, hm⟩, hT, hg⟩ := hG
 unfold textL
 cases h0 : x.k == 0
 · cases h1 : x.k == 1
   · cases h2 : x.k == 2
     · cases h3 : x.k == 3
       · exact text_other x w h0 h1 h2 h3
       · exact text_text x m w h0 h1 h2 h3 hs hm
     · exact text_int x w h0 h1 h2 hn hT hg
   · cases hz : x.n == 0
     · exact text_true x w h0 h1 hz
     · exact text_false x w h0 h1 hz
 · exact text_null x w h0
def GLt (n : Nat) : Prop := 2 < n ∧ 1 < n ∧ 3 < n ∧ 4 < n
theorem GLt.le {n m : Nat} (h : GLt n) (hm : n ≤ m) : GLt m := by
 obtain ⟨h1, h2, h3, h4⟩ := h
 exact ⟨by omega, by omega, by omega, by omega⟩
structure GL (w : World) : Prop where
 gl : Gl w
 syn : ∃ tp p, w.var? Tryz.prog "strconv.ErrSyntax" = some #[.iface tp p]
 rng : ∃ tp p, w.var? Tryz.prog "strconv.ErrRange" = some #[.iface tp p]
 lt : GLt w.heap.size
theorem GL.below {w w' : World} {B : Nat} (h : GL w) (hb : Below B w w') (hB : GLt B) : GL w' := by
 obtain ⟨⟨⟨m, hm⟩, h0, hl⟩, ⟨t1, p1, h1⟩, ⟨t2, p2, h2⟩, l1⟩ := h
 have n0 : Tryz.prog.globalNamed "internal/strconv.uint64pow10" = some 1 := by kernel_rfl
 have n1 : Tryz.prog.globalNamed "strconv.ErrSyntax" = some 3 := by kernel_rfl
 have n2 : Tryz.prog.globalNamed "strconv.ErrRange" = some 4 := by kernel_rfl
 have e0 : w'.var? Tryz.prog "internal/strconv.uint64pow10" = w.var? Tryz.prog "internal/strconv.uint64pow10" := by
  unfold World.var?
  rw [n0]
  simp only [Option.bind_some, hb.block _ hB.2.1]
 have e1 : w'.var? Tryz.prog "strconv.ErrSyntax" = w.var? Tryz.prog "strconv.ErrSyntax" := by
  unfold World.var?
  rw [n1]
  simp only [Option.bind_some, hb.block _ hB.2.2.1]
 have e2 : w'.var? Tryz.prog "strconv.ErrRange" = w.var? Tryz.prog "strconv.ErrRange" := by
  unfold World.var?
  rw [n2]
  simp only [Option.bind_some, hb.block _ hB.2.2.2]
 have h0' : Tab w' := by
  unfold Tab Lib.TabIs at *
  rw [e0]
  exact h0
 exact ⟨⟨⟨m, (hb.cell hB.1).trans hm⟩, h0', Nat.lt_of_lt_of_le hl hb.size⟩, ⟨t1, p1, e1.trans h1⟩, ⟨t2, p2, e2.trans h2⟩, l1.le hb.size⟩
theorem GL.after {w w' : World} (h : GL w) (hb : Below w.heap.size w w') : GL w' := h.below hb h.lt
end Go.Proofs.YtamekagminbejaaGreatDoor
namespace Go.Proofs.YtamekagminbejaaGreatDoor
open Go Go.RowKit
set_option maxRecDepth 100000
def clsI (n : Int) (s : Bool) : Int :=
 if n == 32 then 1 else if decide (97 ≤ n) && decide (n ≤ 122) then 2 else if decide (48 ≤ n) && decide (n ≤ 57) then 3 else if n == 95 then 4 else if n == 39 then 5 else if n == 45 then 6 else if s then 7 else 0
theorem cls_I (b : UInt8) : clsI (b.toNat : Int) (decide (0 ≤ Lib.indexByte sgns b)) = cls b := by
 unfold clsI cls
 simp only [beq_iff_eq, Bool.and_eq_true, decide_eq_true_eq]
 have h1 : ((b.toNat : Int) = 32) ↔ b.toNat = 32 := by omega
 have h2 : ((97 : Int) ≤ b.toNat) ↔ 97 ≤ b.toNat := by omega
 have h3 : ((b.toNat : Int) ≤ 122) ↔ b.toNat ≤ 122 := by omega
 have h4 : ((48 : Int) ≤ b.toNat) ↔ 48 ≤ b.toNat := by omega
 have h5 : ((b.toNat : Int) ≤ 57) ↔ b.toNat ≤ 57 := by omega
 have h6 : ((b.toNat : Int) = 95) ↔ b.toNat = 95 := by omega
 have h7 : ((b.toNat : Int) = 39) ↔ b.toNat = 39 := by omega
 have h8 : ((b.toNat : Int) = 45) ↔ b.toNat = 45 := by omega
 simp only [h1, h2, h3, h4, h5, h6, h7, h8]
set_option maxHeartbeats 4000000 in
theorem cls_i (n : Int) (ix : Int) (w : World) (hix : Lib.indexByte (⟨#[40, 41, 91, 93, 44, 61, 60, 43, 45, 42, 63]⟩ : ByteArray).data.toList n.toNat.toUInt8 = ix) :
 Calls Tryz.prog 176 #[.int .u8 n] w fun e w' => e = .returned (.int .i64 (clsI n (decide (0 ≤ ix)))) ∧ w' = w := by
 have Hx := Lib.hid hix
 clear hix
 obtain ⟨R, hR⟩ : ∃ R, clsI n (decide (0 ≤ ix)) = R := ⟨_, rfl⟩
 rw [hR]
 have HR := Lib.hid hR
 clear hR
 go_enter Tryz.func176, Tryz.ntmps176
 go_wp2_with (go_at_call 202; refine (Tryz.strings_IndexByte _ _ _).mono ?_; rintro e w1 ⟨rfl, rfl⟩; rw [Hx.out])
 all_goals go_ret
 all_goals
  refine ⟨?_, rfl⟩
  have hR := HR.out
  unfold clsI at hR
  rw [← hR]
  clear hR HR Hx
  congr 2
  simp_all
  try omega
theorem cls_c (b : UInt8) (w : World) : Calls Tryz.prog 176 #[.int .u8 (b.toNat : Int)] w fun e w' => e = .returned (.int .i64 (cls b)) ∧ w' = w := by
 have h := cls_i (b.toNat : Int) (Lib.indexByte sgns b) w (by
  have e : ((b.toNat : Int)).toNat.toUInt8 = b := by simp
  rw [e]
  rfl)
 rw [cls_I] at h
 exact h
def Rd (w : World) (b : Nat) (l : List UInt8) : Prop := w.heap[b]? = some (.cells #[.string (ba l)] 212 (0, 0))
theorem Rd.cell {w : World} {b : Nat} {l : List UInt8} (h : Rd w b l) : w.cell? ⟨b, 0, none⟩ = some (.string (ba l)) := by unfold Rd at h; simp [World.cell?, h]
theorem Rd.frozen {w : World} {b : Nat} {l : List UInt8} (h : Rd w b l) : w.frozen? ⟨b, 0, none⟩ = false := by unfold Rd at h; simp [World.frozen?, h]
theorem Rd.lt {w : World} {b : Nat} {l : List UInt8} (h : Rd w b l) : b < w.heap.size := by
 rcases Nat.lt_or_ge b w.heap.size with hlt | hge
 · exact hlt
 · unfold Rd at h; rw [Array.getElem?_eq_none hge] at h; cases h
theorem Rd.after {w w' : World} {b : Nat} {l : List UInt8} (h : Rd w b l) (hb : Below w.heap.size w w') : Rd w' b l := (hb.block b h.lt).trans h
theorem Rd.alloc {w : World} {b : Nat} {l : List UInt8} (h : Rd w b l) (o : Obj) : Rd (w.alloc o) b l := h.after (below_one w o)
theorem Rd.set {w : World} {b : Nat} {l : List UInt8} (h : Rd w b l) (r : List UInt8) : Rd (w.setCell ⟨b, 0, none⟩ (.string (ba r))) b r := by
 unfold Rd at *
 simp [World.setCell, Array.getElem?_modify, h]
theorem ba_take (l : List UInt8) (n : Nat) : (ba l).extract 0 n = ba (l.take n) := by
 apply ByteArray.ext
 simp
theorem ba_drop (l : List UInt8) (n : Nat) : (ba l).extract n l.length = ba (l.drop n) := by
 apply ByteArray.ext
 simp
 exact List.take_of_length_le (by simp)
set_option maxHeartbeats 1000000 in
theorem take_c (b n : Nat) (l : List UInt8) (w : World) (hR : Rd w b l) (hn : n ≤ l.length) (_hl : l.length ≤ 1000000) :
 Calls Tryz.prog 177 #[.pointer (some ⟨b, 0, none⟩), .int .i64 n] w fun e w' => e = .returned (.string (ba (l.take n))) ∧ w' = w.setCell ⟨b, 0, none⟩ (.string (ba (l.drop n))) := by
 have h0 := hR.cell
 have hf := hR.frozen
 have hlt := hR.lt
 go_enter Tryz.func177, Tryz.ntmps177
 go_wp2_with fail
 go_ret
 exact ⟨by rw [ba_take]; rfl, by rw [ba_drop]⟩
theorem tw_step (p : UInt8 → Bool) : ∀ (l : List UInt8) (k : Nat) (x : UInt8), k ≤ (l.takeWhile p).length → l[k]? = some x → (p x = true → k + 1 ≤ (l.takeWhile p).length) ∧ (p x = false → k = (l.takeWhile p).length)
 | [], k, x, _, hx => by simp at hx
 | c :: l, 0, x, _, hx => by
   simp at hx
   subst hx
   rw [List.takeWhile_cons]
   constructor
   · intro h; rw [h]; simp
   · intro h; rw [h]; simp
 | c :: l, k + 1, x, hk, hx => by
   rw [List.takeWhile_cons] at hk ⊢
   cases hc : p c
   · rw [hc] at hk; simp at hk
   · rw [hc] at hk
     simp only [if_true, List.length_cons] at hk ⊢
     have := tw_step p l k x (by omega) (by simpa using hx)
     exact ⟨fun h => by have := this.1 h; omega, fun h => by have := this.2 h; omega⟩
theorem tw_take (p : UInt8 → Bool) (l : List UInt8) : l.take (l.takeWhile p).length = l.takeWhile p ∧ l.drop (l.takeWhile p).length = l.dropWhile p := by
 have h := List.takeWhile_append_dropWhile (p := p) (l := l)
 constructor
 · conv => lhs; arg 2; rw [← h]
   rw [List.take_left]
 · conv => lhs; arg 2; rw [← h]
   rw [List.drop_left]
theorem tw_le (p : UInt8 → Bool) (l : List UInt8) : (l.takeWhile p).length ≤ l.length := by
 have := congrArg List.length (List.takeWhile_append_dropWhile (p := p) (l := l))
 rw [List.length_append] at this
 omega
set_option maxHeartbeats 1000000 in
theorem run_c (b cb m c : Nat) (cs : List Int) (l : List UInt8) (w : World) (hR : Rd w b l) (hm : cs.length = m) (hm2 : m ≤ 100) (hcs : ∀ j, j < cs.length → w.cell? ⟨cb, 0 + j, none⟩ = some (.int .i64 (cs.getD j 0))) (hl : l.length ≤ 1000000) :
 Calls Tryz.prog 155 #[.pointer (some ⟨b, 0, none⟩), .slice (some ⟨cb, 0, none⟩) m c] w fun e w' => e = .returned (.string (ba (l.takeWhile (isIn cs)))) ∧ w' = w.setCell ⟨b, 0, none⟩ (.string (ba (l.dropWhile (isIn cs)))) := by
 have h0 := hR.cell
 have hlt := hR.lt
 have HR := Lib.hid hR
 have Hm := Lib.hid hm
 have Hc := Lib.hid hcs
 obtain ⟨h1, h2⟩ := tw_take (isIn cs) l
 have Hle := Lib.hid (tw_le (isIn cs) l)
 have Hst := Lib.hid (tw_step (isIn cs) l)
 generalize (l.takeWhile (isIn cs)) = T at h1 h2 Hle Hst ⊢
 generalize (l.dropWhile (isIn cs)) = D at h2 ⊢
 have H1 := Lib.hid h1
 have H2 := Lib.hid h2
 clear hR hm hcs h1 h2
 go_enter Tryz.func155, Tryz.ntmps155
 go_wp2_with fail
 go_loopw [5] (fun i wr => ∃ k : Nat, k ≤ T.length ∧ i = .int .i64 k ∧ w = wr) (fun i _ => l.length - (intOf i).toNat)
 case atStart => exact ⟨0, Nat.zero_le _, rfl, rfl⟩
 case round =>
  obtain ⟨k, hk, rfl, rfl⟩ := hrel
  have hkl : k ≤ l.length := Nat.le_trans hk Hle.out
  by_cases hlt2 : k < l.length
  · obtain ⟨x, hx⟩ : ∃ x, l[k]? = some x := ⟨_, List.getElem?_eq_getElem hlt2⟩
    have Hx := Lib.hid hx
    have Hk := Lib.hid hk
    have Hg : Hid ((ba l)[k]'(show k < l.toArray.size by simpa using hlt2) = x) := by
     have e := (List.getElem?_eq_some_iff.1 hx).2
     show l.toArray[k]'(by simpa using hlt2) = x
     simpa using e
    clear hx hk
    go_wp2_with fail
    refine (cls_c _ _).mono ?_
    rintro e w1 ⟨rfl, rfl⟩
    rw [Hg.out]
    have hin : isIn cs x = (cs.take m).contains (cls x) := by
     rw [List.take_of_length_le (by rw [Hm.out]; exact Nat.le_refl _)]
     rfl
    have Hin := Lib.hid hin
    clear hin
    generalize cls x = cx at Hin ⊢
    go_wp2_with fail
    refine (Tryz.slices_Contains_int cb 0 m c cs cx _ (by rw [Hm.out]; exact Nat.le_refl _) (by omega) Hc.out).mono ?_
    rintro e w2 ⟨rfl, rfl⟩
    rw [← Hin.out]
    cases hi : isIn cs x
    · have hkT := (Hst.out k x Hk.out Hx.out).2 hi
      have Hkt := Lib.hid hkT
      clear hkT hi
      go_wp2_with fail
      refine (take_c b k l _ HR.out (by omega) hl).mono ?_
      rintro e w3 ⟨rfl, rfl⟩
      go_wp2
      go_ret
      rw [Hkt.out, H1.out, H2.out]
      exact ⟨rfl, rfl⟩
    · have hkT := (Hst.out k x Hk.out Hx.out).1 hi
      have Hkt := Lib.hid hkT
      clear hkT hi
      go_wp2_with fail
      go_roundw
      case rel => exact ⟨k + 1, Hkt.out, by go_num, trivial⟩
      case measure => simp [intOf]; omega
  · have hke : k = l.length := by omega
    have hkT : k = T.length := by have := Hle.out; omega
    have Hkt := Lib.hid hkT
    clear hkT hke hk
    go_wp2_with fail
    refine (take_c b k l _ HR.out (by omega) hl).mono ?_
    rintro e w3 ⟨rfl, rfl⟩
    go_wp2
    go_ret
    rw [Hkt.out, H1.out, H2.out]
    exact ⟨rfl, rfl⟩
abbrev Tk.val (a : Tk) : Value := .agg #[.int .i64 a.k, .string a.t, .int .i64 a.v.k, .int .i64 a.v.n, .string a.v.s]
abbrev Tk.obj (a : Tk) : Obj := .cells #[.int .i64 a.k, .string a.t, .int .i64 a.v.k, .int .i64 a.v.n, .string a.v.s] 129
def Bt (w : World) (b : Nat) (a : Tk) : Prop := w.heap[b]? = some (.cells #[.int .i64 a.k, .string a.t, .int .i64 a.v.k, .int .i64 a.v.n, .string a.v.s] 129 (0, 0))
theorem Bt.cell0 {w : World} {b : Nat} {a : Tk} (h : Bt w b a) : w.cell? ⟨b, 0, none⟩ = some (.int .i64 a.k) := by unfold Bt at h; simp [World.cell?, h]
theorem Bt.cell1 {w : World} {b : Nat} {a : Tk} (h : Bt w b a) : w.cell? ⟨b, 1, none⟩ = some (.string a.t) := by unfold Bt at h; simp [World.cell?, h]
theorem Bt.cell2 {w : World} {b : Nat} {a : Tk} (h : Bt w b a) : w.cell? ⟨b, 2, none⟩ = some (.int .i64 a.v.k) := by unfold Bt at h; simp [World.cell?, h]
theorem Bt.cell3 {w : World} {b : Nat} {a : Tk} (h : Bt w b a) : w.cell? ⟨b, 3, none⟩ = some (.int .i64 a.v.n) := by unfold Bt at h; simp [World.cell?, h]
theorem Bt.cell4 {w : World} {b : Nat} {a : Tk} (h : Bt w b a) : w.cell? ⟨b, 4, none⟩ = some (.string a.v.s) := by unfold Bt at h; simp [World.cell?, h]
theorem Bt.frozen {w : World} {b : Nat} {a : Tk} (h : Bt w b a) (i : Nat) : w.frozen? ⟨b, i, none⟩ = false := by
 unfold Bt at h
 simp [World.frozen?, h]
theorem Bt.lt {w : World} {b : Nat} {a : Tk} (h : Bt w b a) : b < w.heap.size := by
 rcases Nat.lt_or_ge b w.heap.size with hlt | hge
 · exact hlt
 · unfold Bt at h; rw [Array.getElem?_eq_none hge] at h; cases h
theorem Bt.after {w w' : World} {b : Nat} {a : Tk} (h : Bt w b a) (hb : Below w.heap.size w w') : Bt w' b a := (hb.block b h.lt).trans h
theorem Bt.new (w : World) (a : Tk) : Bt (w.alloc a.obj) w.heap.size a := by
 show (w.heap.push _)[w.heap.size]? = _
 simp
def put5 (w : World) (b : Nat) (a : Tk) : World := ((((w.setCell ⟨b, 0, none⟩ (.int .i64 a.k)).setCell ⟨b, 1, none⟩ (.string a.t)).setCell ⟨b, 2, none⟩ (.int .i64 a.v.k)).setCell ⟨b, 3, none⟩ (.int .i64 a.v.n)).setCell ⟨b, 4, none⟩ (.string a.v.s)
theorem Bt.put {w : World} {b : Nat} {x : Tk} (h : Bt w b x) (a : Tk) : Bt (put5 w b a) b a := by
 unfold Bt at h
 simp [Bt, put5, World.setCell, Array.getElem?_modify, h]
theorem put5_below {B : Nat} {w0 w : World} {b : Nat} (h : Below B w0 w) (hb : B ≤ b) (a : Tk) : Below B w0 (put5 w b a) := ((((h.setCell hb _).setCell hb _).setCell hb _).setCell hb _).setCell hb _
theorem put5_heap {w : World} {b k : Nat} (a : Tk) (hne : k ≠ b) : (put5 w b a).heap[k]? = w.heap[k]? := by
 simp only [put5]
 rw [Below.heap_setCell _ _ _ _ (by exact hne), Below.heap_setCell _ _ _ _ (by exact hne), Below.heap_setCell _ _ _ _ (by exact hne), Below.heap_setCell _ _ _ _ (by exact hne), Below.heap_setCell _ _ _ _ (by exact hne)]
theorem ret_tok {fn : Func} {R : Ending → World → Prop} {F : Act} {w : World} {t u : Tmp} {b : Nat} {a : Tk} {z : Value} (hres : fn.results = #[.cell t 129, .tmp u]) (ht : Reg.slot F t = .pointer (some ⟨b, 0, none⟩)) (hu : Reg.slot F u = z) (hb : Bt w b a) (hd : F.defers = [])
 (hR : R (.returned (.tuple #[a.val, z])) w) : bodyPost Tryz.prog fn R .ret F w := by
 have h0 := hb.cell0
 have h1 := hb.cell1
 have h2 := hb.cell2
 have h3 := hb.cell3
 have h4 := hb.cell4
 refine bodyPost_ret (v := .tuple #[a.val, z]) ?_ hd hR
 have ht' : F.tmps[t]?.getD undef = .pointer (some ⟨b, 0, none⟩) := by simpa [Reg.slot] using ht
 have hu' : F.tmps[u]?.getD undef = z := by simpa [Reg.slot] using hu
 simp [results, hres, ht', hu', go_sem, h0, h1, h2, h3, h4]
theorem Bt.all {w : World} {b : Nat} {a : Tk} (h : Bt w b a) : w.cell? ⟨b, 0, none⟩ = some (.int .i64 a.k) ∧ w.cell? ⟨b, 1, none⟩ = some (.string a.t) ∧ w.cell? ⟨b, 2, none⟩ = some (.int .i64 a.v.k) ∧ w.cell? ⟨b, 3, none⟩ = some (.int .i64 a.v.n) ∧ w.cell? ⟨b, 4, none⟩ = some (.string a.v.s) ∧
 w.frozen? ⟨b, 0, none⟩ = false ∧ w.frozen? ⟨b, 1, none⟩ = false ∧ w.frozen? ⟨b, 2, none⟩ = false ∧ w.frozen? ⟨b, 3, none⟩ = false ∧ w.frozen? ⟨b, 4, none⟩ = false ∧ b < w.heap.size :=
 ⟨h.cell0, h.cell1, h.cell2, h.cell3, h.cell4, h.frozen 0, h.frozen 1, h.frozen 2, h.frozen 3, h.frozen 4, h.lt⟩
set_option maxHeartbeats 1000000 in
theorem number_syn (l : List UInt8) (w : World) (hl : l.length ≤ 1000000) (hG : GL w) (ha : Lib.atoiAll l = .«syntax») : Calls Tryz.prog 179 #[.string (ba l)] w fun e w' => e = .returned (.tuple #[tk0.val, .bool false]) ∧ Below w.heap.size w w' := by
 have HG := Lib.hid hG
 have Ha := Lib.hid ha
 clear hG ha
 go_enter Tryz.func179, Tryz.ntmps179
 go_wp2_with fail
 obtain ⟨tp, p, hv⟩ := (HG.out.after (below_one w tk0.obj)).syn
 refine (Tryz.strconv_Atoi_syntax_var (ba l) (show l.toArray.size ≤ _ by simp; omega) Ha.out tp p _ hv).mono ?_
 rintro e w1 ⟨N, rfl, _, _, hb⟩
 have hB := (Bt.new w tk0).after hb
 have Hb := Lib.hid ((below_one w _).trans (hb.mono (by simp)))
 obtain ⟨c0, c1, c2, c3, c4, f0, f1, f2, f3, f4, hlt⟩ := hB.all
 have HB := Lib.hid hB
 clear hv hb hB
 go_wp2
 exact ret_tok (a := tk0) Tryz.results179 rfl rfl (HB.out.put tk0) rfl ⟨rfl, put5_below Hb.out (Nat.le_refl _) tk0⟩
set_option maxHeartbeats 1000000 in
theorem number_rng (l : List UInt8) (w : World) (hl : l.length ≤ 1000000) (hG : GL w) (ha : Lib.atoiAll l = .range) : Calls Tryz.prog 179 #[.string (ba l)] w fun e w' => e = .returned (.tuple #[tk0.val, .bool false]) ∧ Below w.heap.size w w' := by
 have HG := Lib.hid hG
 have Ha := Lib.hid ha
 clear hG ha
 go_enter Tryz.func179, Tryz.ntmps179
 go_wp2_with fail
 obtain ⟨tp, p, hv⟩ := (HG.out.after (below_one w tk0.obj)).rng
 refine (Tryz.strconv_Atoi_range_var (ba l) (show l.toArray.size ≤ _ by simp; omega) Ha.out tp p _ hv).mono ?_
 rintro e w1 ⟨N, rfl, _, _, hb⟩
 have hB := (Bt.new w tk0).after hb
 have Hb := Lib.hid ((below_one w _).trans (hb.mono (by simp)))
 obtain ⟨c0, c1, c2, c3, c4, f0, f1, f2, f3, f4, hlt⟩ := hB.all
 have HB := Lib.hid hB
 clear hv hb hB
 go_wp2
 exact ret_tok (a := tk0) Tryz.results179 rfl rfl (HB.out.put tk0) rfl ⟨rfl, put5_below Hb.out (Nat.le_refl _) tk0⟩
set_option maxHeartbeats 1000000 in
theorem number_ok (l : List UInt8) (v : Int) (w : World) (hl : l.length ≤ 1000000) (hG : GL w) (ha : Lib.atoiAll l = .ok v) : Calls Tryz.prog 179 #[.string (ba l)] w fun e w' => e = .returned (if Lib.itoa v = l then .tuple #[(intT v).val, .bool true] else .tuple #[tk0.val, .bool false]) ∧ Below w.heap.size w w' := by
 obtain ⟨R, hR⟩ : ∃ R, (if Lib.itoa v = l then Value.tuple #[(intT v).val, .bool true] else .tuple #[tk0.val, .bool false]) = R := ⟨_, rfl⟩
 rw [hR]
 have HR := Lib.hid hR
 have HG := Lib.hid hG
 have Ha := Lib.hid ha
 have H6 := Lib.hid (atoi_64 ha)
 clear hG ha hR
 go_enter Tryz.func179, Tryz.ntmps179
 go_wp2_with fail
 refine (Tryz.strconv_Atoi_ok (ba l) (show l.toArray.size ≤ _ by simp; omega) v Ha.out _).mono ?_
 rintro e w1 ⟨rfl, hb⟩
 have hb : Below (w.alloc tk0.obj).heap.size (w.alloc tk0.obj) w1 := by
  rcases hb with rfl | ⟨t, rfl⟩
  · exact Below.refl _ _
  · exact Lib.bytesWorld_below _ _ _
 have hB := (Bt.new w tk0).after hb
 have hb1 := (below_one w tk0.obj).trans (hb.mono (by simp))
 have HG1 := Lib.hid ((HG.out.after (below_one w tk0.obj)).after hb)
 have Hb := Lib.hid hb1
 have HB := Lib.hid hB
 clear hb hb1 hB
 go_wp2_with fail
 refine (Tryz.strconv_Itoa v H6.out.1 H6.out.2 _ HG1.out.gl.tab).mono ?_
 rintro e w2 ⟨rfl, k, os, hw⟩
 have hb2 : Below w1.heap.size w1 w2 := by rw [hw]; exact below_grow _ k os
 have hB := HB.out.after hb2
 have Hb2 := Lib.hid (Hb.out.trans (hb2.mono Hb.out.size))
 obtain ⟨c0, c1, c2, c3, c4, f0, f1, f2, f3, f4, hlt⟩ := hB.all
 have HB2 := Lib.hid hB
 clear hw hb2 hB HB Hb
 by_cases he : Lib.itoa v = l
 · have hR := HR.out
   rw [if_pos he] at hR
   subst hR
   clear HR
   obtain ⟨s, hs⟩ : ∃ s, (⟨(Lib.itoa v).toArray⟩ : ByteArray) = s := ⟨_, rfl⟩
   have hs2 : ba l = s := by rw [← hs, ← he]
   rw [hs, hs2]
   clear hs hs2 he
   go_wp2
   exact ret_tok (a := intT v) Tryz.results179 rfl rfl (HB2.out.put (intT v)) rfl ⟨rfl, put5_below Hb2.out (Nat.le_refl _) (intT v)⟩
 · have hR := HR.out
   rw [if_neg he] at hR
   subst hR
   clear HR
   have hne : ((⟨(Lib.itoa v).toArray⟩ : ByteArray).toList == l) = false := by
    rw [ByteArray.toList_eq]
    simpa using he
   clear he
   generalize (⟨(Lib.itoa v).toArray⟩ : ByteArray) = s at hne ⊢
   go_wp2
   exact ret_tok (a := tk0) Tryz.results179 rfl rfl (HB2.out.put tk0) rfl ⟨rfl, put5_below Hb2.out (Nat.le_refl _) tk0⟩
def numV (l : List UInt8) : Value := match numT l with
 | some t => .tuple #[t.val, .bool true]
 | none => .tuple #[tk0.val, .bool false]
theorem number_c (l : List UInt8) (w : World) (hl : l.length ≤ 1000000) (hG : GL w) : Calls Tryz.prog 179 #[.string (ba l)] w fun e w' => e = .returned (numV l) ∧ Below w.heap.size w w' := by
 cases ha : Lib.atoiAll l with
 | ok v =>
   have h := number_ok l v w hl hG ha
   have e : (if Lib.itoa v = l then Value.tuple #[(intT v).val, .bool true] else .tuple #[tk0.val, .bool false]) = numV l := by
    unfold numV numT
    rw [ha]
    simp only
    split <;> rfl
   rw [e] at h
   exact h
 | «syntax» =>
   have e : numV l = .tuple #[tk0.val, .bool false] := by unfold numV numT; rw [ha]
   rw [e]
   exact number_syn l w hl hG ha
 | range =>
   have e : numV l = .tuple #[tk0.val, .bool false] := by unfold numV numT; rw [ha]
   rw [e]
   exact number_rng l w hl hG ha
def bcells (l : List UInt8) : List Value := l.map fun b => Value.int .u8 b.toNat
theorem bcells_append (l r : List UInt8) : bcells (l ++ r) = bcells l ++ bcells r := by simp [bcells]
def Buf (w : World) (B : Nat) (v : Value) (bs : List UInt8) : Prop := w.ownsRow B 5 1 v bs.length (bcells bs)
theorem Buf.nil (w : World) (B : Nat) : Buf w B (.slice none 0 0) [] := World.ownsRow_nil w B _ 1
theorem Buf.after {w w' : World} {B : Nat} {v : Value} {bs : List UInt8} (h : Buf w B v bs) (hb : Below w.heap.size w w') : Buf w' B v bs := by
 obtain ⟨h1, h2⟩ := h
 refine ⟨h1, ?_⟩
 rcases h2 with h2 | ⟨g', cap, cur, hv, hB, hh, h3⟩
 · exact .inl h2
 · have hlt : g' < w.heap.size := by
    rcases Nat.lt_or_ge g' w.heap.size with hlt | hge
    · exact hlt
    · rw [Array.getElem?_eq_none hge] at hh; cases hh
   exact .inr ⟨g', cap, cur, hv, hB, (hb.block g' hlt).trans hh, h3⟩
theorem Buf.alloc {w : World} {B : Nat} {v : Value} {bs : List UInt8} (h : Buf w B v bs) (o : Obj) : Buf (w.alloc o) B v bs := h.after (below_one w o)
theorem Buf.lt {w : World} {B : Nat} {v : Value} {bs : List UInt8} (h : Buf w B v bs) : ∀ k, v.ownBlock = some k → B ≤ k ∧ k < w.heap.size := fun k hk => World.ownsRow.lt h k hk
theorem u8Info : (Tryz.prog.info? 5).map (fun i => (i.zero, i.size, i.bytes)) = some (some (.int .u8 0), 1, 1) := by kernel_rfl
theorem wpList_appB {ops : Array Oper} {rest : List Oper} {o : Oper} {a : Act} {Q : Exit → Act → World → Prop} {w0 : World} {c : Int} (hgd : o.guard = none) (s x : Operand) (ho : o.op = .call { callee := .builtin .append, args := #[s, x], argTypes := #[164, 164] })
 (B : Nat) (v : Value) (bs : List UInt8) (b : UInt8) (hs : a.eval s = v) (hb : Buf w0 B v bs) (hc : c = b.toNat) (g : Nat) (hx : a.eval x = .slice (some ⟨g, 0, none⟩) 1 1) (hg : g = w0.heap.size)
 (hmax : bs.length ≤ 1000000) (hB : B ≤ w0.heap.size)
 (h : ∀ v' w', Buf w' B v' (bs ++ [b]) → w0.grownBy w' v.ownBlock → wpList Tryz.prog ops Q rest (a.put o.dst v') w') : wpList Tryz.prog ops Q (o :: rest) a (w0.alloc (.cells #[.int .u8 c] 5)) := by
 obtain ⟨i0, hi, hz0, hz1, hz2⟩ := info_parts u8Info
 subst hc hg
 have hal := hb.alloc (.cells #[.int .u8 b.toNat] 5)
 refine wpList_append_own_at _ hgd s x 164 ho B 5 i0 (.int .u8 0) 1 1 Tryz.underlying164 hi hz0 hz1 hz2 (by decide) (by decide) v bs.length (bcells bs) hs hal ⟨w0.heap.size, 0, none⟩ 1 1 [.int .u8 b.toNat] hx rfl (cell_one_new _ _ _) (fun u hu => by rw [List.mem_singleton] at hu; subst hu; rfl) (by unfold maxLen; omega) (by omega) (by simp; omega) ?_
 intro v' w' hown' hgrow _ _
 refine h v' w' ?_ ((World.grownBy_alloc w0 _ _).trans hgrow)
 unfold Buf
 rw [bcells_append, List.length_append]
 exact hown'
theorem wpList_appS {ops : Array Oper} {rest : List Oper} {o : Oper} {a : Act} {Q : Exit → Act → World → Prop} {w : World} (hgd : o.guard = none) (s x : Operand) (ho : o.op = .call { callee := .builtin .append, args := #[s, x], argTypes := #[164, 9] })
 (B : Nat) (v : Value) (bs : List UInt8) (t : ByteArray) (hs : a.eval s = v) (hb : Buf w B v bs) (hx : a.eval x = .string t)
 (hmax : bs.length + t.size ≤ 1000000) (hB : B ≤ w.heap.size)
 (h : ∀ v' w', Buf w' B v' (bs ++ t.data.toList) → w.grownBy w' v.ownBlock → wpList Tryz.prog ops Q rest (a.put o.dst v') w') : wpList Tryz.prog ops Q (o :: rest) a w := by
 obtain ⟨i0, hi, hz0, hz1, hz2⟩ := info_parts u8Info
 refine Lib.wpList_append_own_string w hgd s x 164 9 ho B 5 i0 Tryz.underlying164 Tryz.underlying9 hi hz0 hz1 hz2 v bs.length (bcells bs) hs hb t hx (by unfold maxLen; omega) (by omega) hB ?_
 intro v' w' hown' hgrow _
 refine h v' w' ?_ hgrow
 unfold Buf
 rw [bcells_append, List.length_append]
 have e : t.data.toList.length = t.size := rfl
 rw [e]
 exact hown'
theorem Buf.conv {w : World} {B : Nat} {v : Value} {bs : List UInt8} (h : Buf w B v bs) : (convert 164 9 v).run Tryz.prog w = .ok (.string ⟨bs.toArray⟩) w := by
 rcases h.2 with ⟨rfl, hn⟩ | ⟨g, cap, cur, rfl, _⟩
 · have : bs = [] := List.eq_nil_of_length_eq_zero hn
   subst this
   exact run_convert_bytes_nil (w := w) 164 5 Tryz.underlying164 Tryz.underlying5 0 0 9 Tryz.underlying9
 · refine run_convert_bytes_back w 164 9 5 ⟨g, 0, none⟩ cap bs Tryz.underlying164 Tryz.underlying5 Tryz.underlying9 fun j hj => ?_
   exact World.ownsRow.cells (g := g) h rfl j _ (by simp [bcells, List.getElem?_eq_getElem hj])
set_option maxRecDepth 100000
structure Stp (w w' : World) (b : Nat) (r : List UInt8) : Prop where
 os : w'.os = w.os
 tape : w'.tape = w.tape
 output : w'.output = w.output
 size : w.heap.size ≤ w'.heap.size
 rd : Rd w' b r
 block : ∀ k, k < w.heap.size → k ≠ b → w'.heap[k]? = w.heap[k]?
theorem Stp.refl {w : World} {b : Nat} {l : List UInt8} (h : Rd w b l) : Stp w w b l := ⟨rfl, rfl, rfl, Nat.le_refl _, h, fun _ _ _ => rfl⟩
theorem Stp.then {w w1 w2 : World} {b : Nat} {l : List UInt8} (h : Stp w w1 b l) (hb : Below w1.heap.size w1 w2) : Stp w w2 b l :=
 ⟨hb.os.trans h.os, hb.tape.trans h.tape, hb.output.trans h.output, Nat.le_trans h.size hb.size, h.rd.after hb, fun k hk hne => (hb.block k (Nat.lt_of_lt_of_le hk h.size)).trans (h.block k hk hne)⟩
theorem Stp.alloc {w w1 : World} {b : Nat} {l : List UInt8} (h : Stp w w1 b l) (o : Obj) : Stp w (w1.alloc o) b l := h.then (below_one w1 o)
theorem Stp.set {w w1 : World} {b : Nat} {l : List UInt8} (h : Stp w w1 b l) (r : List UInt8) : Stp w (w1.setCell ⟨b, 0, none⟩ (.string (ba r))) b r :=
 ⟨h.os, h.tape, h.output, by simpa [World.setCell] using h.size, h.rd.set r, fun k hk hne => (Below.heap_setCell _ _ _ _ hne).trans (h.block k hk hne)⟩
theorem Stp.trans {w w1 w2 : World} {b : Nat} {l r : List UInt8} (h : Stp w w1 b l) (k : Stp w1 w2 b r) : Stp w w2 b r :=
 ⟨k.os.trans h.os, k.tape.trans h.tape, k.output.trans h.output, Nat.le_trans h.size k.size, k.rd, fun i hi hne => (k.block i (Nat.lt_of_lt_of_le hi h.size) hne).trans (h.block i hi hne)⟩
theorem Stp.below {w w' : World} {b B : Nat} {r : List UInt8} (h : Stp w w' b r) (hB : B ≤ b) (hb : b < w.heap.size) : Below B w w' :=
 ⟨h.os, h.tape, h.output, h.size, fun k hk => h.block k (by omega) (by omega)⟩
theorem Stp.bt {w w' : World} {b c : Nat} {r : List UInt8} {a : Tk} (h : Stp w w' b r) (ht : Bt w c a) (hne : c ≠ b) : Bt w' c a := (h.block c ht.lt hne).trans ht
theorem Stp.put {w w1 : World} {b c : Nat} {l : List UInt8} (h : Stp w w1 b l) (hc : w.heap.size ≤ c) (hne : c ≠ b) (a : Tk) : Stp w (put5 w1 c a) b l := by
 have hp := put5_below (Below.refl c w1) (Nat.le_refl c) a
 exact ⟨hp.os.trans h.os, hp.tape.trans h.tape, hp.output.trans h.output, Nat.le_trans h.size hp.size, (put5_heap a (fun e => hne e.symm)).trans h.rd, fun k hk hk2 => (put5_heap a (by omega)).trans (h.block k hk hk2)⟩
theorem cell_new (w : World) (cs : Array Value) (E : TypeId) (i : Nat) : (w.alloc (.cells cs E)).cell? ⟨w.heap.size, i, none⟩ = cs[i]? := by
 have e : (w.alloc (.cells cs E)).heap[w.heap.size]? = some (.cells cs E (0, 0)) := by
  show (w.heap.push _)[w.heap.size]? = _
  simp
 simp only [World.cell?, e, Option.isSome_none, Bool.false_eq_true, if_false]
theorem Stp.grown {w w1 w2 : World} {b : Nat} {l : List UInt8} {row : Option Nat} (h : Stp w w1 b l) (hg : w1.grownBy w2 row) (hrow : ∀ k, row = some k → w.heap.size ≤ k) (hb : b < w.heap.size) : Stp w w2 b l := by
 have hs := h.size
 have key : ∀ k, k < w.heap.size → w2.heap[k]? = w1.heap[k]? := fun k hk => hg.block k (by omega) (fun e => by have := hrow k e.symm; omega)
 exact ⟨hg.os.trans h.os, hg.tape.trans h.tape, hg.output.trans h.output, Nat.le_trans hs hg.size, (key b hb).trans h.rd, fun k hk hne => (key k hk).trans (h.block k hk hne)⟩
theorem GL.stp {w w' : World} {b : Nat} {l r : List UInt8} (h : GL w) (hs : Stp w w' b r) (hR : Rd w b l) (hb : GLt b) : GL w' := h.below (hs.below (Nat.le_refl _) hR.lt) hb
def OutT (o : Option (Tk × List UInt8)) (v : Value) (r : List UInt8) : Prop := match o with
 | none => v = .tuple #[tk0.val, .bool false]
 | some p => v = .tuple #[p.1.val, .bool true] ∧ r = p.2
set_option maxHeartbeats 1000000 in
theorem word_c (b : Nat) (l : List UInt8) (w : World) (hR : Rd w b l) (hl : l.length ≤ 100000) :
 Calls Tryz.prog 178 #[.pointer (some ⟨b, 0, none⟩)] w fun e w' => e = .returned (.string (ba (l.takeWhile inn))) ∧ Stp w w' b (l.dropWhile inn) := by
 have HR := Lib.hid hR
 clear hR
 obtain ⟨T, hT⟩ : ∃ T, ba (l.takeWhile inn) = T := ⟨_, rfl⟩
 obtain ⟨D, hD⟩ : ∃ D, l.dropWhile inn = D := ⟨_, rfl⟩
 rw [hT, hD]
 have HT := Lib.hid hT
 have HD := Lib.hid hD
 clear hT hD
 go_enter Tryz.func178, Tryz.ntmps178
 go_wp2_with fail
 refine (run_c b _ _ _ [2, 3, 4] l _ (HR.out.alloc _) rfl (by decide) (fun j hj => ?_) (by omega)).mono ?_
 · rw [Nat.zero_add, cell_new]
   match j, hj with
   | 0, _ => rfl
   | 1, _ => rfl
   | 2, _ => rfl
   | j + 3, h => simp at h; omega
 rintro e w1 ⟨rfl, hw⟩
 have hs : Stp w w1 b D := by rw [hw, ← HD.out]; exact ((Stp.refl HR.out).alloc _).set _
 have Hs := Lib.hid hs
 clear hs hw
 have eT : ba (l.takeWhile (isIn [2, 3, 4])) = T := HT.out
 rw [eT]
 clear eT
 go_wp2
 go_ret
 exact ⟨rfl, Hs.out⟩
theorem quo_none : ∀ l : List UInt8, 39 ∉ l → quoF false l = none
 | [], _ => rfl
 | c :: l, h => by
   simp only [List.mem_cons, not_or] at h
   rw [quoF, if_neg (fun e => h.1 e.symm), quo_none l h.2]
   rfl
theorem quo_pre (post : List UInt8) : ∀ pre : List UInt8, 39 ∉ pre → quoF false (pre ++ 39 :: post) = (quoF true post).map fun p => (pre ++ p.1, p.2)
 | [], _ => by
   rw [List.nil_append, quoF, if_pos rfl]
   cases quoF true post <;> rfl
 | c :: l, h => by
   simp only [List.mem_cons, not_or] at h
   rw [List.cons_append, quoF, if_neg (fun e => h.1 e.symm), quo_pre post l h.2]
   cases quoF true post <;> rfl
theorem index_split : ∀ (l : List UInt8) (c : UInt8), (Lib.indexByte l c = -1 ∧ c ∉ l) ∨ ∃ pre post, l = pre ++ c :: post ∧ c ∉ pre ∧ Lib.indexByte l c = pre.length
 | [], c => .inl ⟨rfl, by simp⟩
 | b :: l, c => by
   rw [Lib.indexByte]
   by_cases h : b = c
   · subst h
     exact .inr ⟨[], l, rfl, by simp, by simp⟩
   · have hb : (b == c) = false := by simpa using h
     rw [hb]
     simp only [Bool.false_eq_true, if_false]
     rcases index_split l c with ⟨h1, h2⟩ | ⟨pre, post, h1, h2, h3⟩
     · refine .inl ⟨by rw [h1]; rfl, ?_⟩
       simp only [List.mem_cons, not_or]
       exact ⟨fun e => h e.symm, h2⟩
     · refine .inr ⟨b :: pre, post, by rw [h1]; rfl, ?_, ?_⟩
       · simp only [List.mem_cons, not_or]
         exact ⟨fun e => h e.symm, h2⟩
       · rw [h3]
         have : ((pre.length : Int) == -1) = false := by simp
         rw [this]
         simp
theorem Buf.same {w w' : World} {B : Nat} {v : Value} {bs : List UInt8} (h : Buf w B v bs) (hb : ∀ k, B ≤ k → w'.heap[k]? = w.heap[k]?) : Buf w' B v bs := by
 obtain ⟨h1, h2⟩ := h
 refine ⟨h1, ?_⟩
 rcases h2 with h2 | ⟨g', cap, cur, hv, hB, hh, h3⟩
 · exact .inl h2
 · exact .inr ⟨g', cap, cur, hv, hB, (hb g' hB).trans hh, h3⟩
def rdLen (w : World) (b : Nat) : Nat := match w.cell? ⟨b, 0, none⟩ with
 | some (.string s) => s.size
 | _ => 0
theorem Rd.len {w : World} {b : Nat} {l : List UInt8} (h : Rd w b l) : rdLen w b = l.length := by
 unfold rdLen
 rw [h.cell]
 show l.toArray.size = _
 simp
set_option maxHeartbeats 2000000 in
theorem quo_c (b : Nat) (l : List UInt8) (w : World) (hR : Rd w b (39 :: l)) (hl : l.length ≤ 100000) :
 Calls Tryz.prog 180 #[.pointer (some ⟨b, 0, none⟩)] w fun e w' => ∃ v r, e = .returned v ∧ OutT ((quoF false l).map fun p => (strT p.1, p.2)) v r ∧ Stp w w' b r := by
 obtain ⟨Out, hOut⟩ : ∃ Out : Value → List UInt8 → Prop, OutT ((quoF false l).map fun p => (strT p.1, p.2)) = Out := ⟨_, rfl⟩
 rw [hOut]
 have HO := Lib.hid hOut
 have hbw := hR.lt
 have HR := Lib.hid hR
 clear hR hOut
 go_enter Tryz.func180, Tryz.ntmps180
 go_wp2_with fail
 go_loopw [4] (fun i wr => ∃ acc rest : List UInt8, Hid (Stp w wr b (39 :: rest)) ∧ Hid (Bt wr w.heap.size tk0) ∧ Hid (Buf wr (w.heap.size + 1) i acc) ∧ Hid (quoF false l = (quoF false rest).map fun p => (acc ++ p.1, p.2)) ∧ Hid (acc.length + rest.length ≤ l.length)) (fun _ wr => rdLen wr b)
 case atStart =>
  refine ⟨[], l, (Stp.refl HR.out).alloc _, Bt.new w tk0, Buf.nil _ _, ?_, ?_⟩
  · show quoF false l = _
    cases quoF false l <;> rfl
  · show _ ≤ _
    simp
 case round =>
  obtain ⟨acc, rest, hS, hB, hU, hq, hn⟩ := hrel
  have hbs : b < wr.heap.size := hS.out.rd.lt
  go_wp2_with fail
  refine (take_c b 1 (39 :: rest) _ hS.out.rd (by simp) (by have := hn.out; simp; omega)).mono ?_
  rintro e w1 ⟨rfl, hw1⟩
  have hS1 : Stp w w1 b rest := by rw [hw1]; exact hS.out.set rest
  have hb1 : Below b wr w1 := by rw [hw1]; exact (Below.refl b wr).setCell (Nat.le_refl _) _
  have hk1 : ∀ k, k ≠ b → w1.heap[k]? = wr.heap[k]? := fun k hk => by rw [hw1]; exact Below.heap_setCell _ _ _ _ hk
  have hB1 : Bt w1 w.heap.size tk0 := (hk1 _ (by omega)).trans hB.out
  have hU1 : Buf w1 (w.heap.size + 1) u4 acc := hU.out.same fun k hk => hk1 k (by omega)
  have r0 := hS1.rd.cell
  have HS1 := Lib.hid hS1
  have HB1 := Lib.hid hB1
  have HU1 := Lib.hid hU1
  have hbs1 : b < w1.heap.size := hS1.rd.lt
  have Hm := Lib.hid hS.out.rd.len
  have eT : (39 :: rest).take 1 = [39] := rfl
  rw [eT]
  clear hw1 hS1 hb1 hk1 hB1 hU1 hS hB hU hbs eT
  go_wp2_with fail
  refine (Tryz.strings_IndexByte _ _ _).mono ?_
  rintro e w2 ⟨rfl, rfl⟩
  have e39 : Lib.indexByte (ba rest).data.toList (39 : Int).toNat.toUInt8 = Lib.indexByte rest 39 := rfl
  rw [e39]
  clear e39
  rcases index_split rest 39 with ⟨h1, h2⟩ | ⟨pre, post, h1, h2, h3⟩
  · rw [h1]
    have H2 := Lib.hid h2
    obtain ⟨c0, c1, c2, c3, c4, f0, f1, f2, f3, f4, hlt⟩ := HB1.out.all
    clear h1 h2
    go_wp2
    refine ret_tok (a := tk0) Tryz.results180 rfl rfl (HB1.out.put tk0) rfl ⟨_, rest, rfl, ?_, HS1.out.put (Nat.le_refl _) (by omega) tk0⟩
    rw [← HO.out, hq.out, quo_none rest H2.out]
    rfl
  · rw [h3]
    have H1 := Lib.hid h1
    have H2 := Lib.hid h2
    have hlen : pre.length + post.length + 1 = rest.length := by rw [h1]; simp; omega
    clear h1 h2 h3
    go_wp2_with fail
    refine (take_c b pre.length rest _ HS1.out.rd (by omega) (by have := hn.out; omega)).mono ?_
    rintro e w3 ⟨rfl, hw3⟩
    have hS3 : Stp w w3 b (39 :: post) := by
     rw [hw3]
     have := HS1.out.set (rest.drop pre.length)
     rwa [show rest.drop pre.length = 39 :: post by rw [H1.out]; simp] at this ⊢
    have hk3 : ∀ k, k ≠ b → w3.heap[k]? = w2.heap[k]? := fun k hk => by rw [hw3]; exact Below.heap_setCell _ _ _ _ hk
    have hz3 : w3.heap.size = w2.heap.size := by rw [hw3]; simp [World.setCell]
    have HB3 : Hid (Bt w3 w.heap.size tk0) := (hk3 _ (by omega)).trans HB1.out
    have HU3 : Hid (Buf w3 (w.heap.size + 1) u4 acc) := HU1.out.same fun k hk => hk3 k (by omega)
    have HS3 := Lib.hid hS3
    have hbs3 : w.heap.size < w3.heap.size := by have := HB1.out.lt; omega
    have eT : rest.take pre.length = pre := by rw [H1.out]; simp
    rw [eT]
    clear hw3 hS3 hk3 hz3 eT HS1 HB1 HU1 r0 hbs1
    go_wp2_with (at_builtin; go_must (refine wpList_appS rfl (.tmp 16) (.tmp 19) rfl (w.heap.size + 1) _ acc (ba pre) rfl HU3.out rfl (by have := hn.out; show _ + pre.toArray.size ≤ _; simp; omega) (by omega) ?_; intro v4 w4 hU4 hg4))
    have hg4 : w3.grownBy w4 u4.ownBlock := hg4
    have hrow : ∀ k, u4.ownBlock = some k → w.heap.size + 1 ≤ k := fun k hk => (HU3.out.lt k hk).1
    have hS4 : Stp w w4 b (39 :: post) := HS3.out.grown hg4 (fun k hk => by have := hrow k hk; omega) hbw
    have hB4 : Bt w4 w.heap.size tk0 := (hg4.block _ hbs3 (fun e => by have := hrow _ e.symm; omega)).trans HB3.out
    clear HB3 HU3 HS3
    refine (take_c b 1 (39 :: post) _ hS4.rd (by simp) (by have := hn.out; simp; omega)).mono ?_
    rintro e w5 ⟨rfl, hw5⟩
    have hS5 : Stp w w5 b post := by rw [hw5]; exact hS4.set post
    have hk5 : ∀ k, k ≠ b → w5.heap[k]? = w4.heap[k]? := fun k hk => by rw [hw5]; exact Below.heap_setCell _ _ _ _ hk
    have hB5 : Bt w5 w.heap.size tk0 := (hk5 _ (by omega)).trans hB4
    have hU5 : Buf w5 (w.heap.size + 1) v4 (acc ++ pre) := hU4.same fun k hk => hk5 k (by omega)
    have r0 := hS5.rd.cell
    have HS5 := Lib.hid hS5
    have HB5 := Lib.hid hB5
    have HU5 := Lib.hid hU5
    have hbs5 : w.heap.size < w5.heap.size := hB5.lt
    have hbl5 : b < w5.heap.size := hS5.rd.lt
    have hconv := hU5.conv
    have eT : (39 :: post).take 1 = [39] := rfl
    rw [eT]
    clear hw5 hS5 hk5 hB5 hU5 hS4 hB4 hU4 hg4 hrow hbs3 eT
    have hq2 : quoF false l = (quoF true post).map fun p => ((acc ++ pre) ++ p.1, p.2) := by
     rw [hq.out, H1.out, quo_pre post pre H2.out]
     cases quoF true post <;> simp
    have Hq2 := Lib.hid hq2
    clear hq2
    have hbuf : (⟨(acc ++ pre).toArray⟩ : ByteArray) = ba (acc ++ pre) := rfl
    rw [hbuf] at hconv
    clear hbuf
    have hlen2 : Hid ((acc ++ pre).length + 1 + post.length ≤ l.length) := by
     have := hn.out
     show _ ≤ _
     rw [List.length_append]
     omega
    have hm2 : Hid (post.length < rdLen wr b) := by
     have := Hm.out
     show _ < _
     rw [this, List.length_cons]
     omega
    clear hlen hn Hm H1 H2 hq
    generalize (acc ++ pre) = A at HU5 hconv Hq2 hlen2
    obtain ⟨c0, c1, c2, c3, c4, f0, f1, f2, f3, f4, hlt⟩ := HB5.out.all
    cases post with
    | nil =>
      go_wp2
      refine ret_tok (a := strT A) (z := .bool true) Tryz.results180 rfl rfl (HB5.out.put (strT A)) rfl ⟨_, [], rfl, ?_, HS5.out.put (Nat.le_refl _) (by omega) (strT A)⟩
      rw [← HO.out, Hq2.out]
      refine ⟨?_, rfl⟩
      simp
    | cons c post =>
      have Hg : Hid ((ba (c :: post))[0]'(by show 0 < (c :: post).toArray.size; simp) = c) := rfl
      go_wp2_with fail
      refine (cls_c _ _).mono ?_
      rintro e w6 ⟨rfl, rfl⟩
      rw [Hg.out]
      clear Hg
      by_cases hc : cls c = 5
      · have hc39 : c = 39 := by have := byte_of (cls_5.1 hc); simpa using this
        rw [hc]
        have Hc := Lib.hid hc39
        clear hc hc39
        go_wp2_with (at_builtin; go_must (refine wpList_appB rfl (.tmp 41) (.tmp 42) rfl (w.heap.size + 1) _ A 39 rfl HU5.out rfl _ rfl rfl (by have := hlen2.out; omega) (by omega) ?_; intro v7 w7 hU7 hg7))
        have hg7 : w6.grownBy w7 v4.ownBlock := hg7
        have hrow : ∀ k, v4.ownBlock = some k → w.heap.size + 1 ≤ k := fun k hk => (HU5.out.lt k hk).1
        have hS7 : Stp w w7 b (c :: post) := HS5.out.grown hg7 (fun k hk => by have := hrow k hk; omega) hbw
        have hB7 : Bt w7 w.heap.size tk0 := (hg7.block _ hbs5 (fun e => by have := hrow _ e.symm; omega)).trans HB5.out
        rw [Hc.out] at hS7
        go_roundw
        case rel =>
         refine ⟨A ++ [39], post, hS7, hB7, hU7, ?_, ?_⟩
         · show quoF false l = _
           rw [Hq2.out, Hc.out, quoF, if_pos rfl]
           cases quoF false post <;> simp
         · have := hlen2.out
           show _ ≤ _
           simp only [List.length_append, List.length_cons, List.length_nil] at this ⊢
           omega
        case measure =>
         have := hm2.out
         rw [hS7.rd.len]
         exact this
      · have hne : (cls c == 5) = false := by simpa using hc
        have hc39 : c ≠ 39 := by rintro rfl; exact hc (by decide)
        have Hc := Lib.hid hc39
        generalize cls c = cx at hne ⊢
        clear hc hc39
        go_wp2
        refine ret_tok (a := strT A) (z := .bool true) Tryz.results180 rfl rfl (HB5.out.put (strT A)) rfl ⟨_, c :: post, rfl, ?_, HS5.out.put (Nat.le_refl _) (by omega) (strT A)⟩
        rw [← HO.out, Hq2.out, quoF, if_neg Hc.out]
        refine ⟨?_, rfl⟩
        simp
theorem run1_cells (w : World) (x : Int) (E : TypeId) : ∀ j, j < [x].length → (w.alloc (.cells #[.int .i64 x] E)).cell? ⟨w.heap.size, 0 + j, none⟩ = some (.int .i64 ([x].getD j 0)) := by
 intro j hj
 rw [Nat.zero_add, cell_new]
 match j, hj with
 | 0, _ => rfl
 | j + 1, h => simp at h
theorem tok_2 {c : UInt8} {r : List UInt8} (h : cls c = 2) : tokL (c :: r) = some (wrdT ((c :: r).takeWhile inn), (c :: r).dropWhile inn) := by rw [tokL, if_pos h]
theorem tok_3 {c : UInt8} {r : List UInt8} (h : cls c = 3) : tokL (c :: r) = (numT ((c :: r).takeWhile dig)).map fun t => (t, (c :: r).dropWhile dig) := by rw [tokL, if_neg (by omega), if_pos h]
theorem tok_5 {c : UInt8} {r : List UInt8} (h : cls c = 5) : tokL (c :: r) = (quoF false r).map fun p => (strT p.1, p.2) := by rw [tokL, if_neg (by omega), if_neg (by omega), if_pos h]
theorem tok_6 {c : UInt8} {r : List UInt8} (h : cls c = 6) : tokL (c :: r) = if r.takeWhile dig = [] then some (sgnT [c], r) else (numT (c :: r.takeWhile dig)).map fun t => (t, r.dropWhile dig) := by rw [tokL, if_neg (by omega), if_neg (by omega), if_neg (by omega), if_pos h]
theorem tok_7 {c : UInt8} {r : List UInt8} (h : cls c = 7) : tokL (c :: r) = some (sgnT [c], r) := by rw [tokL, if_neg (by omega), if_neg (by omega), if_neg (by omega), if_neg (by omega), if_pos h]
theorem tok_0 {c : UInt8} {r : List UInt8} (h2 : cls c ≠ 2) (h3 : cls c ≠ 3) (h5 : cls c ≠ 5) (h6 : cls c ≠ 6) (h7 : cls c ≠ 7) : tokL (c :: r) = none := by rw [tokL, if_neg h2, if_neg h3, if_neg h5, if_neg h6, if_neg h7]
set_option maxHeartbeats 4000000 in
theorem token_c (b : Nat) (c : UInt8) (r : List UInt8) (w : World) (hR : Rd w b (c :: r)) (hl : r.length ≤ 50000) (hG : GL w) (hGb : GLt b) :
 Calls Tryz.prog 156 #[.pointer (some ⟨b, 0, none⟩)] w fun e w' => ∃ v q, e = .returned v ∧ OutT (tokL (c :: r)) v q ∧ Stp w w' b q := by
 obtain ⟨Out, hOut⟩ : ∃ Out : Value → List UInt8 → Prop, OutT (tokL (c :: r)) = Out := ⟨_, rfl⟩
 rw [hOut]
 have HO := Lib.hid hOut
 have hbw := hR.lt
 have HR := Lib.hid hR
 have HG := Lib.hid hG
 have Hg : Hid ((ba (c :: r))[0]'(by show 0 < (c :: r).toArray.size; simp) = c) := rfl
 have r0 := hR.cell
 clear hR hOut hG
 go_enter Tryz.func156, Tryz.ntmps156
 go_wp2_with fail
 refine (cls_c _ _).mono ?_
 rintro e w0 ⟨rfl, rfl⟩
 rw [Hg.out]
 have hS0 : Stp w (w.alloc tk0.obj) b (c :: r) := (Stp.refl HR.out).alloc _
 have HS0 := Lib.hid hS0
 have HB0 := Lib.hid (Bt.new w tk0)
 have HG0 := Lib.hid (HG.out.after (below_one w tk0.obj))
 clear hS0 Hg r0
 obtain ⟨W, hW⟩ : ∃ W, w.alloc (.cells #[.int .i64 0, .string ⟨#[]⟩, .int .i64 0, .int .i64 0, .string ⟨#[]⟩] 129) = W := ⟨_, rfl⟩
 have hWs : w.heap.size < W.heap.size := by rw [← hW]; simp
 have hW2 : w.alloc tk0.obj = W := hW
 rw [hW]
 rw [hW2] at HS0 HB0 HG0
 clear hW hW2
 by_cases h2 : cls c = 2
 · rw [h2]
   go_wp2_with fail
   refine (word_c b (c :: r) W HS0.out.rd (by simp; omega)).mono ?_
   rintro e w1 ⟨rfl, hS1⟩
   have HB1 := Lib.hid (hS1.bt HB0.out (by omega))
   have HS1 := Lib.hid (HS0.out.trans hS1)
   obtain ⟨c0, c1, c2, c3, c4, f0, f1, f2, f3, f4, hlt⟩ := HB1.out.all
   have Ht := Lib.hid (tok_2 (r := r) h2)
   clear hS1 h2
   obtain ⟨T, hT⟩ : ∃ T, (c :: r).takeWhile inn = T := ⟨_, rfl⟩
   rw [hT] at Ht ⊢
   clear hT
   go_wp2
   refine ret_tok (a := wrdT T) (z := .bool true) Tryz.results156 rfl rfl (HB1.out.put (wrdT T)) rfl ⟨_, _, rfl, ?_, HS1.out.put (Nat.le_refl _) (by omega) (wrdT T)⟩
   rw [← HO.out, Ht.out]
   exact ⟨rfl, rfl⟩
 by_cases h3 : cls c = 3
 · rw [h3]
   go_wp2_with fail
   refine (run_c b _ _ _ [3] (c :: r) _ (HS0.out.rd.alloc _) rfl (by decide) (run1_cells W 3 _) (by simp; omega)).mono ?_
   rintro e w1 ⟨rfl, hw1⟩
   have hS1 : Stp W w1 b ((c :: r).dropWhile dig) := by rw [hw1]; exact ((Stp.refl HS0.out.rd).alloc _).set _
   have HB1 := Lib.hid (hS1.bt HB0.out (by omega))
   have HS1 := Lib.hid (HS0.out.trans hS1)
   have HG1 := Lib.hid (HG0.out.stp hS1 HS0.out.rd hGb)
   have Ht := Lib.hid (tok_3 (r := r) h3)
   have hT5 : ((c :: r).takeWhile dig).length ≤ 1000000 := Nat.le_trans (tw_le dig (c :: r)) (by simp; omega)
   clear hS1 hw1 h2 h3
   obtain ⟨T, hT⟩ : ∃ T, (c :: r).takeWhile dig = T := ⟨_, rfl⟩
   have eT : (c :: r).takeWhile (isIn [3]) = T := hT
   rw [hT] at Ht hT5
   rw [eT]
   clear hT eT
   go_wp2_with fail
   refine (number_c T w1 hT5 HG1.out).mono ?_
   rintro e w2 ⟨rfl, hb2⟩
   have HB2 := Lib.hid (HB1.out.after hb2)
   have HS2 := Lib.hid (HS1.out.then hb2)
   obtain ⟨c0, c1, c2, c3, c4, f0, f1, f2, f3, f4, hlt⟩ := HB2.out.all
   clear hb2 HB1 HS1 HG1
   cases hN : numT T with
   | none =>
     have eN : numV T = .tuple #[tk0.val, .bool false] := by unfold numV; rw [hN]
     rw [eN]
     have HN := Lib.hid hN
     clear hN eN
     go_wp2
     refine ret_tok (a := tk0) (z := .bool false) Tryz.results156 rfl rfl (HB2.out.put tk0) rfl ⟨_, _, rfl, ?_, HS2.out.put (Nat.le_refl _) (by omega) tk0⟩
     rw [← HO.out, Ht.out, HN.out]
     rfl
   | some t =>
     have eN : numV T = .tuple #[t.val, .bool true] := by unfold numV; rw [hN]
     rw [eN]
     have HN := Lib.hid hN
     clear hN eN
     go_wp2
     refine ret_tok (a := t) (z := .bool true) Tryz.results156 rfl rfl (HB2.out.put t) rfl ⟨_, _, rfl, ?_, HS2.out.put (Nat.le_refl _) (by omega) t⟩
     rw [← HO.out, Ht.out, HN.out]
     exact ⟨rfl, rfl⟩
 by_cases h5 : cls c = 5
 · rw [h5]
   have hc39 : c = 39 := by have := byte_of (cls_5.1 h5); simpa using this
   have hrd : Rd W b (39 :: r) := by have := HS0.out.rd; rwa [hc39] at this
   have Hrd := Lib.hid hrd
   have Ht := Lib.hid (tok_5 (r := r) h5)
   clear h2 h3 h5 hrd hc39
   go_wp2_with fail
   refine (quo_c b r W Hrd.out (by omega)).mono ?_
   rintro e w1 ⟨v, q, rfl, hO, hS1⟩
   have HB1 := Lib.hid (hS1.bt HB0.out (by omega))
   have HS1 := Lib.hid (HS0.out.trans hS1)
   obtain ⟨c0, c1, c2, c3, c4, f0, f1, f2, f3, f4, hlt⟩ := HB1.out.all
   clear hS1
   rw [← Ht.out] at hO
   cases hN : tokL (c :: r) with
   | none =>
     rw [hN] at hO
     have hv : v = .tuple #[tk0.val, .bool false] := hO
     subst hv
     have HN := Lib.hid hN
     clear hN hO
     go_wp2
     refine ret_tok (a := tk0) (z := .bool false) Tryz.results156 rfl rfl (HB1.out.put tk0) rfl ⟨_, q, rfl, ?_, HS1.out.put (Nat.le_refl _) (by omega) tk0⟩
     rw [← HO.out, HN.out]
     rfl
   | some p =>
     rw [hN] at hO
     obtain ⟨hv, hq⟩ := hO
     subst hv hq
     have HN := Lib.hid hN
     obtain ⟨t, q⟩ := p
     clear hN
     go_wp2
     refine ret_tok (a := t) (z := .bool true) Tryz.results156 rfl rfl (HB1.out.put t) rfl ⟨_, q, rfl, ?_, HS1.out.put (Nat.le_refl _) (by omega) t⟩
     rw [← HO.out, HN.out]
     exact ⟨rfl, rfl⟩
 by_cases h6 : cls c = 6
 · rw [h6]
   have Ht := Lib.hid (tok_6 (r := r) h6)
   clear h2 h3 h5 h6
   go_wp2_with fail
   refine (take_c b 1 (c :: r) W HS0.out.rd (by simp) (by simp; omega)).mono ?_
   rintro e w1 ⟨rfl, hw1⟩
   have hS1 : Stp W w1 b r := by rw [hw1]; exact (Stp.refl HS0.out.rd).set r
   have HB1 := Lib.hid (hS1.bt HB0.out (by omega))
   have HS1 := Lib.hid (HS0.out.trans hS1)
   have HG1 := Lib.hid (HG0.out.stp hS1 HS0.out.rd hGb)
   have eT : (c :: r).take 1 = [c] := rfl
   rw [eT]
   clear hS1 hw1 HB0 HG0 eT
   go_wp2_with fail
   refine (run_c b _ _ _ [3] r _ (HS1.out.rd.alloc _) rfl (by decide) (run1_cells w1 3 _) (by omega)).mono ?_
   rintro e w2 ⟨rfl, hw2⟩
   have hS2 : Stp w1 w2 b (r.dropWhile dig) := by rw [hw2]; exact ((Stp.refl HS1.out.rd).alloc _).set _
   have HB2 := Lib.hid (hS2.bt HB1.out (by omega))
   have HS2 := Lib.hid (HS1.out.trans hS2)
   have HG2 := Lib.hid (HG1.out.stp hS2 HS1.out.rd hGb)
   have hT5 : (r.takeWhile dig).length ≤ 100000 := Nat.le_trans (tw_le dig r) (by omega)
   have hTD := List.takeWhile_append_dropWhile (p := dig) (l := r)
   clear hS2 hw2 HB1 HG1 HS1
   obtain ⟨T, hT⟩ : ∃ T, r.takeWhile dig = T := ⟨_, rfl⟩
   have eT : r.takeWhile (isIn [3]) = T := hT
   rw [hT] at Ht hT5 hTD
   rw [eT]
   clear hT eT
   have HTD := Lib.hid hTD
   clear hTD
   cases T with
   | nil =>
     have hD : r.dropWhile dig = r := HTD.out
     rw [hD] at HS2
     obtain ⟨c0, c1, c2, c3, c4, f0, f1, f2, f3, f4, hlt⟩ := HB2.out.all
     clear hD HTD
     go_wp2
     refine ret_tok (a := sgnT [c]) (z := .bool true) Tryz.results156 rfl rfl (HB2.out.put (sgnT [c])) rfl ⟨_, r, rfl, ?_, HS2.out.put (Nat.le_refl _) (by omega) (sgnT [c])⟩
     rw [← HO.out, Ht.out]
     first | rw [if_pos rfl] | rw [if_pos trivial]
     exact ⟨rfl, rfl⟩
   | cons d T =>
     have ecat : ∀ w, (Op.stringOp .add (ba [c]) (ba (d :: T))).run Tryz.prog w = .ok (.string (ba (c :: d :: T))) w := fun w => cat_run w [c] (d :: T) (by simp only [List.length_cons, List.length_nil] at hT5 ⊢; omega)
     have hl2 : (c :: d :: T).length ≤ 1000000 := by simp only [List.length_cons] at hT5 ⊢; omega
     clear HTD hT5
     have Hl2 := Lib.hid hl2
     clear hl2
     go_wp2_with fail
     refine (number_c (c :: d :: T) w2 Hl2.out HG2.out).mono ?_
     rintro e w3 ⟨rfl, hb3⟩
     have HB3 := Lib.hid (HB2.out.after hb3)
     have HS3 := Lib.hid (HS2.out.then hb3)
     obtain ⟨c0, c1, c2, c3, c4, f0, f1, f2, f3, f4, hlt⟩ := HB3.out.all
     clear hb3 HB2 HS2 HG2 ecat
     cases hN : numT (c :: d :: T) with
     | none =>
       have eN : numV (c :: d :: T) = .tuple #[tk0.val, .bool false] := by unfold numV; rw [hN]
       rw [eN]
       have HN := Lib.hid hN
       clear hN eN
       go_wp2
       refine ret_tok (a := tk0) (z := .bool false) Tryz.results156 rfl rfl (HB3.out.put tk0) rfl ⟨_, _, rfl, ?_, HS3.out.put (Nat.le_refl _) (by omega) tk0⟩
       rw [← HO.out, Ht.out, if_neg (by simp), HN.out]
       rfl
     | some t =>
       have eN : numV (c :: d :: T) = .tuple #[t.val, .bool true] := by unfold numV; rw [hN]
       rw [eN]
       have HN := Lib.hid hN
       clear hN eN
       go_wp2
       refine ret_tok (a := t) (z := .bool true) Tryz.results156 rfl rfl (HB3.out.put t) rfl ⟨_, _, rfl, ?_, HS3.out.put (Nat.le_refl _) (by omega) t⟩
       rw [← HO.out, Ht.out, if_neg (by simp), HN.out]
       exact ⟨rfl, rfl⟩
 by_cases h7 : cls c = 7
 · rw [h7]
   have Ht := Lib.hid (tok_7 (r := r) h7)
   clear h2 h3 h5 h6 h7
   go_wp2_with fail
   refine (take_c b 1 (c :: r) W HS0.out.rd (by simp) (by simp; omega)).mono ?_
   rintro e w1 ⟨rfl, hw1⟩
   have hS1 : Stp W w1 b r := by rw [hw1]; exact (Stp.refl HS0.out.rd).set r
   have HB1 := Lib.hid (hS1.bt HB0.out (by omega))
   have HS1 := Lib.hid (HS0.out.trans hS1)
   have eT : (c :: r).take 1 = [c] := rfl
   rw [eT]
   obtain ⟨c0, c1, c2, c3, c4, f0, f1, f2, f3, f4, hlt⟩ := HB1.out.all
   clear hS1 hw1 HB0 HG0 eT
   go_wp2
   refine ret_tok (a := sgnT [c]) (z := .bool true) Tryz.results156 rfl rfl (HB1.out.put (sgnT [c])) rfl ⟨_, r, rfl, ?_, HS1.out.put (Nat.le_refl _) (by omega) (sgnT [c])⟩
   rw [← HO.out, Ht.out]
   exact ⟨rfl, rfl⟩
 · have Ht := Lib.hid (tok_0 (r := r) h2 h3 h5 h6 h7)
   have e2 : (cls c == 2) = false := by simpa using h2
   have e3 : (cls c == 3) = false := by simpa using h3
   have e5 : (cls c == 5) = false := by simpa using h5
   have e6 : (cls c == 6) = false := by simpa using h6
   have e7 : (cls c == 7) = false := by simpa using h7
   clear h2 h3 h5 h6 h7
   obtain ⟨c0, c1, c2, c3, c4, f0, f1, f2, f3, f4, hlt⟩ := HB0.out.all
   generalize cls c = cx at e2 e3 e5 e6 e7 ⊢
   go_wp2
   refine ret_tok (a := tk0) (z := .bool false) Tryz.results156 rfl rfl (HB0.out.put tk0) rfl ⟨_, _, rfl, ?_, HS0.out.put (Nat.le_refl _) (by omega) tk0⟩
   rw [← HO.out, Ht.out]
   rfl
theorem all_drop (p : UInt8 → Bool) : ∀ l : List UInt8, l.all p = (l.dropWhile p).isEmpty
 | [] => rfl
 | c :: l => by
   rw [List.all_cons, List.dropWhile_cons]
   cases p c
   · rfl
   · simp only [Bool.true_and, if_true]
     exact all_drop p l
theorem Rd.new (w : World) (l : List UInt8) : Rd (w.alloc (.cells #[.string (ba l)] 212)) w.heap.size l := by
 show (w.heap.push _)[w.heap.size]? = _
 simp
set_option maxHeartbeats 1000000 in
theorem isWord_c (l : List UInt8) (w : World) (hl : l.length ≤ maxLen) : Calls Tryz.prog 181 #[.string (ba l)] w fun e w' => e = .returned (.bool (wordB l)) ∧ Below w.heap.size w w' := by
 unfold maxLen at hl
 cases l with
 | nil =>
   go_enter Tryz.func181, Tryz.ntmps181
   go_wp2
   go_ret
   exact ⟨rfl, Below.refl _ _⟩
 | cons c r =>
   have Hg : Hid ((ba (c :: r))[0]'(by show 0 < (c :: r).toArray.size; simp) = c) := rfl
   obtain ⟨R, hR⟩ : ∃ R, wordB (c :: r) = R := ⟨_, rfl⟩
   rw [hR]
   have HR : Hid ((decide ((c :: r).length ≤ 30) && (decide (cls c = 2) && (c :: r).all inn)) = R) := hR
   clear hR
   by_cases h30 : (c :: r).length ≤ 30
   · have hd := decide_eq_true h30
     have h31 : r.length + 1 ≤ 30 := by simpa using h30
     have H30 := Lib.hid h30
     go_enter Tryz.func181, Tryz.ntmps181
     go_wp2_with fail
     refine (cls_c _ _).mono ?_
     rintro e w0 ⟨rfl, rfl⟩
     rw [Hg.out]
     by_cases h2 : cls c = 2
     · rw [h2]
       have H2 := Lib.hid h2
       clear h2 hd h30 Hg
       go_wp2_with fail
       refine (word_c _ (c :: r) _ (Rd.new _ _) (by have := H30.out; omega)).mono ?_
       rintro e w1 ⟨rfl, hS⟩
       have r0 := hS.rd.cell
       have hlt := hS.rd.lt
       have Hb : Hid (Below w0.heap.size w0 w1) := (below_one w0 _).trans (hS.below (Nat.le_refl _) (by simp))
       have hall := all_drop inn (c :: r)
       have hR := HR.out
       rw [hall, decide_eq_true H30.out, decide_eq_true H2.out] at hR
       simp only [Bool.true_and] at hR
       clear hall HR hS
       generalize (c :: r).takeWhile inn = T
       generalize (c :: r).dropWhile inn = D at r0 hR
       cases D with
       | nil =>
         subst hR
         go_wp2
         go_ret
         exact ⟨rfl, Hb.out⟩
       | cons x D =>
         subst hR
         go_wp2
         go_ret
         exact ⟨rfl, Hb.out⟩
     · have hne : (cls c == 2) = false := by simpa using h2
       have hne2 : (cls c != 2) = true := by simpa using h2
       have hR := HR.out
       rw [decide_eq_false h2, Bool.false_and, Bool.and_false] at hR
       subst hR
       clear HR h2 hd
       generalize cls c = cx at hne hne2 ⊢
       go_wp2
       go_ret
       exact ⟨rfl, Below.refl _ _⟩
   · have hR := HR.out
     rw [decide_eq_false h30, Bool.false_and] at hR
     subst hR
     have h31 : 30 < r.length + 1 := by simp only [List.length_cons] at h30; omega
     clear HR h30
     go_enter Tryz.func181, Tryz.ntmps181
     go_wp2
     go_ret
     exact ⟨rfl, Below.refl _ _⟩
set_option maxHeartbeats 1000000 in
theorem isSign_c (l : List UInt8) (w : World) (hl : l.length ≤ maxLen) : Calls Tryz.prog 182 #[.string (ba l)] w fun e w' => e = .returned (.bool (signB l)) ∧ Below w.heap.size w w' := by
 unfold maxLen at hl
 have other : ∀ l : List UInt8, l.length ≤ 9223372036854775807 → (l.length == 1) = false → Calls Tryz.prog 182 #[.string (ba l)] w fun e w' => e = .returned (.bool false) ∧ Below w.heap.size w w' := by
  intro l hl h1
  have h2 : ((l.length : Int) == 1) = false := by simp at h1 ⊢; omega
  go_enter Tryz.func182, Tryz.ntmps182
  go_wp2
  go_ret
  exact ⟨rfl, Below.refl _ _⟩
 match l, hl with
 | [], hl => exact other [] hl rfl
 | [c], hl =>
   obtain ⟨R, hR⟩ : ∃ R, signB [c] = R := ⟨_, rfl⟩
   rw [hR]
   have HR := Lib.hid hR
   clear hR other
   go_enter Tryz.func182, Tryz.ntmps182
   go_wp2_with fail
   refine (Tryz.strings_Contains_one _ c _).mono ?_
   rintro e w1 ⟨rfl, rfl⟩
   have e1 : decide (0 ≤ Lib.indexByte (⟨#[40, 41, 91, 93, 44, 61, 60, 43, 45, 42, 63]⟩ : ByteArray).data.toList c) = R := by
    rw [← HR.out]
    unfold signB
    have := indexByte_mem sgns c
    rw [decide_eq_decide]
    exact this
   rw [e1]
   clear e1 HR
   go_wp2
   go_ret
   exact ⟨rfl, Below.refl _ _⟩
 | c :: d :: r, hl => exact other (c :: d :: r) hl (by simp)
section
attribute [local go_sem ↓] run_eqV run_neV
set_option maxHeartbeats 1000000 in
theorem tmay_c0 (t : Tk) (w : World) (hl : t.t.size ≤ maxLen) (h0 : (t.k == 0) = true) : Calls Tryz.prog 157 #[t.val] w fun e w' => e = .returned (.bool (wordB t.t.data.toList && t.v.eq nl)) ∧ Below w.heap.size w w' := by
 obtain ⟨R, hR⟩ : ∃ R, (wordB t.t.data.toList && t.v.eq nl) = R := ⟨_, rfl⟩
 rw [hR]
 have HR := Lib.hid hR
 clear hR
 obtain ⟨k, s, v⟩ := t
 obtain ⟨vk, vn, vs⟩ := v
 simp only at *
 have Hw := Lib.hid (isWord_c s.data.toList (w.alloc (⟨k, s, vk, vn, vs⟩ : Tk).obj) hl)
 rw [ba_of] at Hw
 have HB := Lib.hid (Bt.new w ⟨k, s, ⟨vk, vn, vs⟩⟩)
 clear hl
 go_enter Tryz.func157, Tryz.ntmps157
 go_wp2_with fail
 refine Hw.out.mono ?_
 rintro e w1 ⟨rfl, hb⟩
 obtain ⟨c0, c1, c2, c3, c4, f0, f1, f2, f3, f4, hlt⟩ := (HB.out.after hb).all
 have Hb := Lib.hid ((below_one w _).trans (hb.mono (by simp)))
 clear hb Hw HB
 have hR := HR.out
 clear HR
 cases hW : wordB s.data.toList
 all_goals
  rw [hW] at hR
  have HR := Lib.hid hR
  clear hR
  go_wp2
  go_ret
  refine ⟨?_, Hb.out⟩
  rw [← HR.out]
  rfl
set_option maxHeartbeats 1000000 in
theorem tmay_c2 (t : Tk) (w : World) (hl : t.t.size ≤ maxLen) (h0 : (t.k == 0) = false) (h1 : (t.k == 1) = false) (h2 : (t.k == 2) = true) : Calls Tryz.prog 157 #[t.val] w fun e w' => e = .returned (.bool (signB t.t.data.toList && t.v.eq nl)) ∧ Below w.heap.size w w' := by
 obtain ⟨R, hR⟩ : ∃ R, (signB t.t.data.toList && t.v.eq nl) = R := ⟨_, rfl⟩
 rw [hR]
 have HR := Lib.hid hR
 clear hR
 obtain ⟨k, s, v⟩ := t
 obtain ⟨vk, vn, vs⟩ := v
 simp only at *
 have Hw := Lib.hid (isSign_c s.data.toList (w.alloc (⟨k, s, vk, vn, vs⟩ : Tk).obj) hl)
 rw [ba_of] at Hw
 have HB := Lib.hid (Bt.new w ⟨k, s, ⟨vk, vn, vs⟩⟩)
 clear hl
 go_enter Tryz.func157, Tryz.ntmps157
 go_wp2_with fail
 refine Hw.out.mono ?_
 rintro e w1 ⟨rfl, hb⟩
 obtain ⟨c0, c1, c2, c3, c4, f0, f1, f2, f3, f4, hlt⟩ := (HB.out.after hb).all
 have Hb := Lib.hid ((below_one w _).trans (hb.mono (by simp)))
 clear hb Hw HB
 have hR := HR.out
 clear HR
 cases hW : signB s.data.toList
 all_goals
  rw [hW] at hR
  have HR := Lib.hid hR
  clear hR
  go_wp2
  go_ret
  refine ⟨?_, Hb.out⟩
  rw [← HR.out]
  rfl
end
set_option maxHeartbeats 1000000 in
theorem tmay_c1 (t : Tk) (w : World) (hs : t.v.s.size ≤ maxLen) (h0 : (t.k == 0) = false) (h1 : (t.k == 1) = true) : Calls Tryz.prog 157 #[t.val] w fun e w' => e = .returned (.bool (t.t.toList.isEmpty && ((t.v.k == 2 || t.v.k == 3) && mayB t.v))) ∧ Below w.heap.size w w' := by
 obtain ⟨R, hR⟩ : ∃ R, (t.t.toList.isEmpty && ((t.v.k == 2 || t.v.k == 3) && mayB t.v)) = R := ⟨_, rfl⟩
 rw [hR]
 obtain ⟨k, s, v⟩ := t
 obtain ⟨vk, vn, vs⟩ := v
 simp only at *
 have HB := Lib.hid (Bt.new w ⟨k, s, ⟨vk, vn, vs⟩⟩)
 have Hm := Lib.hid (may_c ⟨vk, vn, vs⟩ (w.alloc (⟨k, s, vk, vn, vs⟩ : Tk).obj) hs)
 have hbo : Below w.heap.size w (w.alloc (⟨k, s, vk, vn, vs⟩ : Tk).obj) := below_one w _
 have Hbo := Lib.hid hbo
 clear hs hbo
 cases he : s.toList.isEmpty
 · rw [he] at hR
   have HR := Lib.hid hR
   clear hR
   go_enter Tryz.func157, Tryz.ntmps157
   go_wp2
   go_ret
   exact ⟨by rw [← HR.out]; rfl, Hbo.out⟩
 · rw [he] at hR
   cases h2 : vk == 2
   · cases h3 : vk == 3
     · rw [h2, h3] at hR
       have HR := Lib.hid hR
       clear hR
       go_enter Tryz.func157, Tryz.ntmps157
       go_wp2
       go_ret
       exact ⟨by rw [← HR.out]; rfl, Hbo.out⟩
     · rw [h2, h3] at hR
       have HR := Lib.hid hR
       clear hR
       go_enter Tryz.func157, Tryz.ntmps157
       go_wp2_with fail
       refine Hm.out.mono ?_
       rintro e w1 ⟨rfl, hb⟩
       have Hb := Lib.hid (Hbo.out.trans (hb.mono (by simp)))
       have hR2 : mayB ⟨vk, vn, vs⟩ = R := HR.out
       rw [hR2]
       clear hb Hm HR hR2
       go_wp2
       go_ret
       exact ⟨rfl, Hb.out⟩
   · rw [h2] at hR
     have HR := Lib.hid hR
     clear hR
     go_enter Tryz.func157, Tryz.ntmps157
     go_wp2_with fail
     refine Hm.out.mono ?_
     rintro e w1 ⟨rfl, hb⟩
     have Hb := Lib.hid (Hbo.out.trans (hb.mono (by simp)))
     have hR2 : mayB ⟨vk, vn, vs⟩ = R := HR.out
     rw [hR2]
     clear hb Hm HR hR2
     go_wp2
     go_ret
     exact ⟨rfl, Hb.out⟩
set_option maxHeartbeats 1000000 in
theorem tmay_c3 (t : Tk) (w : World) (h0 : (t.k == 0) = false) (h1 : (t.k == 1) = false) (h2 : (t.k == 2) = false) : Calls Tryz.prog 157 #[t.val] w fun e w' => e = .returned (.bool false) ∧ Below w.heap.size w w' := by
 have hbo : Below w.heap.size w (w.alloc t.obj) := below_one w _
 have Hbo := Lib.hid hbo
 clear hbo
 go_enter Tryz.func157, Tryz.ntmps157
 go_wp2
 go_ret
 exact ⟨rfl, Hbo.out⟩
theorem tmay_c (t : Tk) (w : World) (hl : t.t.size ≤ maxLen) (hs : t.v.s.size ≤ maxLen) : Calls Tryz.prog 157 #[t.val] w fun e w' => e = .returned (.bool (mayT t)) ∧ Below w.heap.size w w' := by
 unfold mayT
 cases h0 : t.k == 0
 · cases h1 : t.k == 1
   · cases h2 : t.k == 2
     · exact tmay_c3 t w h0 h1 h2
     · exact tmay_c2 t w hl h0 h1 h2
   · exact tmay_c1 t w hs h0 h1
 · exact tmay_c0 t w hl h0
end Go.Proofs.YtamekagminbejaaGreatDoor
namespace Go.Proofs.YtamekagminbejaaGreatDoor
open Go Go.RowKit
set_option maxRecDepth 100000
def rdT (t : Tk) : List Value := [.int .i64 t.k, .string t.t, .int .i64 t.v.k, .int .i64 t.v.n, .string t.v.s]
theorem tOk : ElOk Tryz.prog 101 129 5 56 tk0.val rdT where
 under := Tryz.underlying101
 info := by kernel_rfl
 zs := rfl
 pos := by decide
 len := fun _ => rfl
 one := fun x u hu => by
  simp [rdT] at hu
  rcases hu with rfl | rfl | rfl | rfl | rfl <;> rfl
def lexO (l : List UInt8) : Option (List Tk) := if l.length ≤ 20000 then lexL l else none
def LexS (o : Option (List Tk)) (v : Value) (n : Int) (B : Nat) (w : World) : Prop := match o with
 | none => v = .slice none 0 0 ∧ n = 60
 | some ts => n = 0 ∧ OwnG w B 129 5 rdT v ts ∧ ts.length ≤ 20000
theorem quo_len : ∀ (l : List UInt8) (b : Bool) (u r : List UInt8), quoF b l = some (u, r) → u.length ≤ l.length
 | [], false, u, r, h => by simp [quoF] at h
 | [], true, u, r, h => by simp [quoF] at h; simp [h.1]
 | c :: l, false, u, r, h => by
   rw [quoF] at h
   split at h
   · have := quo_len l true u r h; simp; omega
   · cases e : quoF false l with
     | none => rw [e] at h; cases h
     | some p =>
       rw [e] at h
       simp at h
       have := quo_len l false p.1 p.2 e
       rw [← h.1]; simp; omega
 | c :: l, true, u, r, h => by
   rw [quoF] at h
   split at h
   · cases e : quoF false l with
     | none => rw [e] at h; cases h
     | some p =>
       rw [e] at h
       simp at h
       have := quo_len l false p.1 p.2 e
       rw [← h.1]; simp; omega
   · simp at h; rw [h.1]; simp
theorem num_size {w : List UInt8} {t : Tk} (h : numT w = some t) : t.t.size = 0 ∧ t.v.s.size = 0 := by
 unfold numT at h
 split at h
 · split at h
   · simp only [Option.some.injEq] at h
     subst h
     exact ⟨rfl, rfl⟩
   · cases h
 · cases h
theorem ba_size (l : List UInt8) : (ba l).size = l.length := by show l.toArray.size = _; simp
theorem tok_size {l : List UInt8} {t : Tk} {r : List UInt8} (h : tokL l = some (t, r)) : t.t.size ≤ l.length ∧ t.v.s.size ≤ l.length := by
 cases l with
 | nil => cases h
 | cons c l =>
   rw [tokL] at h
   split at h
   · simp only [Option.some.injEq, Prod.mk.injEq] at h
     rw [← h.1]
     refine ⟨?_, Nat.zero_le _⟩
     show (ba _).size ≤ _
     rw [ba_size]
     exact tw_le inn (c :: l)
   split at h
   · cases e : numT ((c :: l).takeWhile dig) with
     | none => rw [e] at h; cases h
     | some q =>
       rw [e] at h
       simp only [Option.map_some, Option.some.injEq, Prod.mk.injEq] at h
       obtain ⟨h1, h2⟩ := num_size e
       rw [← h.1, h1, h2]; simp
   split at h
   · cases e : quoF false l with
     | none => rw [e] at h; cases h
     | some q =>
       rw [e] at h
       simp only [Option.map_some, Option.some.injEq, Prod.mk.injEq] at h
       rw [← h.1]
       refine ⟨Nat.zero_le _, ?_⟩
       show (ba _).size ≤ _
       rw [ba_size]
       have := quo_len l false q.1 q.2 e
       simp; omega
   split at h
   · split at h
     · simp only [Option.some.injEq, Prod.mk.injEq] at h
       rw [← h.1]
       refine ⟨?_, Nat.zero_le _⟩
       show 1 ≤ _
       simp
     · cases e : numT (c :: l.takeWhile dig) with
       | none => rw [e] at h; cases h
       | some q =>
         rw [e] at h
         simp only [Option.map_some, Option.some.injEq, Prod.mk.injEq] at h
         obtain ⟨h1, h2⟩ := num_size e
         rw [← h.1, h1, h2]; simp
   split at h
   · simp only [Option.some.injEq, Prod.mk.injEq] at h
     rw [← h.1]
     refine ⟨?_, Nat.zero_le _⟩
     show 1 ≤ _
     simp
   · cases h
structure LI (w0 : World) (b : Nat) (l0 : List UInt8) (v : Value) (w : World) (l : List UInt8) (ts : List Tk) : Prop where
 rd : Rd w b l
 hd : l = [] ∨ ∃ c r, l = c :: r ∧ cls c ≠ 1
 own : OwnG w (b + 1) 129 5 rdT v ts
 lex : lexL l0 = (lexL l).map (ts ++ ·)
 gl : GL w
 blw : Below b w0 w
 len : ts.length + l.length ≤ 20000
theorem OwnG.stp {w w' : World} {b : Nat} {r : List UInt8} {v : Value} {ts : List Tk} (h : OwnG w (b + 1) 129 5 rdT v ts) (hs : Stp w w' b r) : OwnG w' (b + 1) 129 5 rdT v ts :=
 h.same fun k hk => hs.block k (h.lt k hk).2 (by have := (h.lt k hk).1; omega)
set_option maxHeartbeats 1000000 in
theorem lex_c (l : List UInt8) (w : World) (hl : l.length ≤ maxLen) (hG : GL w) :
 Calls Tryz.prog 135 #[.string (ba l)] w fun e w' => ∃ v n, e = .returned (.tuple #[v, .int .i64 n]) ∧ LexS (lexO l) v n w.heap.size w' ∧ Below w.heap.size w w' := by
 unfold maxLen at hl
 by_cases h2 : l.length ≤ 20000
 · have eO : lexO l = lexL l := by unfold lexO; rw [if_pos h2]
   rw [eO]
   obtain ⟨Out, hOut⟩ : ∃ Out : Value → Int → Nat → World → Prop, LexS (lexL l) = Out := ⟨_, rfl⟩
   rw [hOut]
   have HO := Lib.hid hOut
   have HG := Lib.hid hG
   have HGt := Lib.hid hG.lt
   clear hG eO hOut hl
   go_enter Tryz.func135, Tryz.ntmps135
   go_wp2_with fail
   have hR0 := Rd.new w l
   have HG1 := Lib.hid (HG.out.after (below_one w (.cells #[.string (ba l)] 212)))
   have HB1 := Lib.hid (below_one w (.cells #[.string (ba l)] 212))
   have HR := Lib.hid hR0
   have hsz : (w.alloc (.cells #[.string (ba l)] 212)).heap.size = w.heap.size + 1 := by simp
   obtain ⟨W, hW⟩ : ∃ W, w.alloc (.cells #[.string (ba l)] 212) = W := ⟨_, rfl⟩
   rw [hW] at HG1 HB1 HR hsz ⊢
   clear hW hR0
   refine (run_c w.heap.size (w.heap.size + 1) 1 1 [1] l _ (HR.out.alloc _) rfl (by decide) (by have := run1_cells W 1 3; rw [hsz] at this; exact this) (by omega)).mono ?_
   rintro e w1 ⟨rfl, hw1⟩
   have hS1 : Stp W w1 w.heap.size (l.dropWhile blk) := by rw [hw1]; exact ((Stp.refl HR.out).alloc _).set _
   have hI : LI w w.heap.size l (.slice none 0 0) w1 (l.dropWhile blk) [] := {
    rd := hS1.rd
    hd := drop_head l
    own := OwnG.nil _ _ _
    lex := by rw [lex_drop]; cases lexL l <;> rfl
    gl := HG1.out.stp hS1 HR.out HGt.out
    blw := HB1.out.trans (hS1.below (Nat.le_refl _) (by omega))
    len := by have := drop_le blk l; simp; omega }
   have HI := Lib.hid hI
   clear hS1 hw1 hI HG1 HB1 HR hsz
   go_wp2_with fail
   go_loopw [4] (fun v wr => ∃ l' ts, Hid (LI w w.heap.size l v wr l' ts)) (fun _ wr => rdLen wr w.heap.size)
   case atStart => exact ⟨_, _, HI⟩
   case round =>
    clear HI
    obtain ⟨l', ts, hI⟩ := hrel
    have r0 := hI.out.rd.cell
    have hlt := hI.out.rd.lt
    have hlen := hI.out.rd.len
    cases l' with
    | nil =>
      go_wp2
      go_ret2
      refine ⟨_, _, rfl, ?_, hI.out.blw⟩
      rw [← HO.out, hI.out.lex, lex_nil]
      have hown := hI.out.own.mono (B' := w.heap.size) (by omega)
      have hl9 := hI.out.len
      rw [← List.append_nil ts] at hown hl9
      exact ⟨rfl, hown, by omega⟩
    | cons c r =>
      have hlenL := hI.out.len
      simp only [List.length_cons] at hlenL
      have hcls : cls c ≠ 1 := by
       rcases hI.out.hd with h | ⟨c', r', h, hc⟩
       · cases h
       · simp only [List.cons.injEq] at h
         rw [h.1]; exact hc
      have hcut := lex_tok (r := r) hcls
      have HCut := Lib.hid hcut
      clear hcls hcut
      go_wp2_with fail
      refine (token_c w.heap.size c r wr hI.out.rd (by omega) hI.out.gl HGt.out).mono ?_
      rintro e w2 ⟨tv, q, rfl, hO2, hS2⟩
      have HS2 := Lib.hid hS2
      have HG2 := Lib.hid (hI.out.gl.stp hS2 hI.out.rd HGt.out)
      have HB2 := Lib.hid (hI.out.blw.trans (hS2.below (Nat.le_refl _) hlt))
      have HO2 := Lib.hid (hI.out.own.stp hS2)
      clear hS2 r0
      cases hT : tokL (c :: r) with
      | none =>
        rw [hT] at hO2
        have hv : tv = .tuple #[tk0.val, .bool false] := hO2
        subst hv
        have HT := Lib.hid hT
        clear hO2 hT
        go_wp2
        go_ret2
        refine ⟨_, _, rfl, ?_, HB2.out.alloc HB2.out.size _⟩
        rw [← HO.out, hI.out.lex, HCut.out, HT.out]
        exact ⟨rfl, rfl⟩
      | some p =>
        obtain ⟨t, q'⟩ := p
        have hsz := tok_size hT
        simp only [List.length_cons] at hsz
        have h64 := tok_64 hT
        have hq := tok_lt hT
        simp only [List.length_cons] at hq
        rw [hT] at hO2
        obtain ⟨hv, rfl⟩ : tv = .tuple #[t.val, .bool true] ∧ q = q' := hO2
        subst hv
        have HT := Lib.hid hT
        clear hT
        go_wp2_with fail
        refine (tmay_c t _ (by unfold maxLen; omega) (by unfold maxLen; omega)).mono ?_
        rintro e w3 ⟨rfl, hb3⟩
        have HB3 := Lib.hid (below_via (below_one w2 t.obj) hb3)
        have HR3 := Lib.hid (HS2.out.rd.after HB3.out)
        have HG3 := Lib.hid (HG2.out.after HB3.out)
        have HO3 := Lib.hid (HO2.out.after HB3.out)
        have HBw := Lib.hid (HB2.out.trans (HB3.out.mono HB2.out.size))
        have hbw3 := HBw.out.size
        have HT3 := Lib.hid ((Bt.new w2 t).after hb3)
        obtain ⟨c0, c1, c2, c3, c4, f0, f1, f2, f3, f4, hlt3⟩ := HT3.out.all
        clear hb3 HB3 HO2 HG2 HB2 HS2 HT3
        cases hM : mayT t
        · have HM := Lib.hid hM
          clear hM
          go_wp2
          go_ret2
          refine ⟨_, _, rfl, ?_, HBw.out⟩
          rw [← HO.out, hI.out.lex, HCut.out, HT.out]
          simp only [HM.out]
          exact ⟨rfl, rfl⟩
        · have HM := Lib.hid hM
          clear hM
          go_wp2_with (at_builtin; go_must (
           refine wpList_appG tOk rfl (.tmp 31) (.tmp 33) rfl (w.heap.size + 1) _ ts [t] (some ⟨w3.heap.size, 0, none⟩) 1 1 rfl (HO3.out.alloc _) rfl rfl (SlG.new tOk.len [t] rfl) (by simp [maxLen]; omega) (by simp; omega) (by simp; omega) ?_
           intro v4 w4 hv4 hg4
           have HO4 := Lib.hid hv4
           have hR4 : Rd w4 w.heap.size q := (hg4.block w.heap.size (by simp; omega) (fun e => by have := (HO3.out.lt _ e.symm).1; omega)).trans (HR3.out.alloc _)
           have HR4 := Lib.hid hR4
           have HB4 := Lib.hid ((HBw.out.alloc HBw.out.size _).grown hg4 (by simp; omega) (fun k hk => by have := (HO3.out.lt k hk).1; omega))
           clear hv4 hg4 hR4))
          refine (run_c w.heap.size w4.heap.size 1 1 [1] q _ (HR4.out.alloc _) rfl (by decide) (run1_cells w4 1 3) (by omega)).mono ?_
          rintro e w5 ⟨rfl, hw5⟩
          have hS5 : Stp w4 w5 w.heap.size (q.dropWhile blk) := by rw [hw5]; exact ((Stp.refl HR4.out).alloc _).set _
          have hb5 := HB4.out.trans (hS5.below (Nat.le_refl _) HR4.out.lt)
          have hI5 : LI w w.heap.size l v4 w5 (q.dropWhile blk) (ts ++ [t]) := {
           rd := hS5.rd
           hd := drop_head q
           own := OwnG.stp HO4.out hS5
           lex := by
            rw [lex_drop, hI.out.lex, HCut.out, HT.out]
            simp only [HM.out, if_true]
            cases lexL q with
            | none => rfl
            | some a => simp
           gl := HG.out.below hb5 HGt.out
           blw := hb5
           len := by have := drop_le blk q; simp; omega }
          have HI5 := Lib.hid hI5
          have hm : rdLen w5 w.heap.size < rdLen wr w.heap.size := by
           rw [hS5.rd.len, hlen]
           have := drop_le blk q
           simp only [List.length_cons]; omega
          clear hw5 hS5 hb5 hI5
          go_wp2_with fail
          go_roundw
          case rel => exact ⟨_, _, HI5⟩
          case measure => exact hm
 · have eO : lexO l = none := by unfold lexO; rw [if_neg h2]
   rw [eO]
   have h3 : 20000 < l.length := by omega
   go_enter Tryz.func135, Tryz.ntmps135
   go_wp2
   go_ret2
   exact ⟨_, _, rfl, ⟨rfl, rfl⟩, Below.refl _ _⟩
def boom (n : Int) : List PanicEntry := [{ v := .iface 162 (.agg #[.int .i64 n]), recovered := false }]
theorem req_yes (w : World) : Calls Tryz.prog 114 #[.bool true] w fun e w' => e = .returned (.tuple #[]) ∧ w' = w := by
 go_enter Tryz.func114, Tryz.ntmps114
 go_wp2
 go_end0
 exact ⟨rfl, rfl⟩
theorem req_no (w : World) : Calls Tryz.prog 114 #[.bool false] w fun e w' => e = .panicked (boom 70) ∧ w' = w := by
 go_enter Tryz.func114, Tryz.ntmps114
 go_wp2
 exact ⟨rfl, rfl, rfl⟩
def Bk (w : World) (b : Nat) (cs : Array Value) (T : TypeId) : Prop := w.heap[b]? = some (.cells cs T (0, 0))
theorem Bk.lt {w : World} {b : Nat} {cs : Array Value} {T : TypeId} (h : Bk w b cs T) : b < w.heap.size := by
 rcases Nat.lt_or_ge b w.heap.size with hlt | hge
 · exact hlt
 · unfold Bk at h; rw [Array.getElem?_eq_none hge] at h; cases h
theorem Bk.cell {w : World} {b : Nat} {cs : Array Value} {T : TypeId} (h : Bk w b cs T) (j : Nat) : w.cell? ⟨b, j, none⟩ = cs[j]? := by unfold Bk at h; simp [World.cell?, h]
theorem Bk.thaw {w : World} {b : Nat} {cs : Array Value} {T : TypeId} (h : Bk w b cs T) (j : Nat) : w.frozen? ⟨b, j, none⟩ = false := by unfold Bk at h; simp [World.frozen?, h]
theorem Bk.after {w w' : World} {b B : Nat} {cs : Array Value} {T : TypeId} (h : Bk w b cs T) (hb : Below B w w') (hB : b < B) : Bk w' b cs T := (hb.block b hB).trans h
theorem Bk.drew {w : World} {b : Nat} {cs : Array Value} {T : TypeId} (h : Bk w b cs T) : Bk w.drew b cs T := h
theorem Bk.new (w : World) (cs : Array Value) (T : TypeId) : Bk (w.alloc (.cells cs T)) w.heap.size cs T := by
 show (w.heap.push _)[w.heap.size]? = _
 simp
theorem Bk.set {w : World} {b : Nat} {cs : Array Value} {T : TypeId} (h : Bk w b cs T) (j : Nat) (v : Value) : Bk (w.setCell ⟨b, j, none⟩ v) b (cs.setIfInBounds j v) T := by
 unfold Bk at *
 simp [World.setCell, Array.getElem?_modify, h]
def putL (w : World) (b : Nat) : Nat → List Value → World
 | _, [] => w
 | j, v :: vs => putL (w.setCell ⟨b, j, none⟩ v) b (j + 1) vs
theorem putL_size : ∀ (vs : List Value) (w : World) (b j : Nat), (putL w b j vs).heap.size = w.heap.size
 | [], _, _, _ => rfl
 | v :: vs, w, b, j => by rw [putL, putL_size vs]; simp [World.setCell]
theorem putL_heap : ∀ (vs : List Value) (w : World) (b j k : Nat), k ≠ b → (putL w b j vs).heap[k]? = w.heap[k]?
 | [], _, _, _, _, _ => rfl
 | v :: vs, w, b, j, k, h => by rw [putL, putL_heap vs _ _ _ _ h]; exact Below.heap_setCell _ _ _ _ h
theorem putL_io : ∀ (vs : List Value) (w : World) (b j : Nat), (putL w b j vs).os = w.os ∧ (putL w b j vs).tape = w.tape ∧ (putL w b j vs).output = w.output
 | [], _, _, _ => ⟨rfl, rfl, rfl⟩
 | v :: vs, w, b, j => by rw [putL]; exact putL_io vs _ b (j + 1)
theorem Bk.putF {T : TypeId} : ∀ (vs : List Value) (w : World) (b j : Nat) (cs : Array Value), Bk w b cs T → j + vs.length = cs.size → Bk (putL w b j vs) b (cs.toList.take j ++ vs).toArray T
 | [], w, b, j, cs, h, hn => by
   have e : (cs.toList.take j ++ []).toArray = cs := by
    rw [List.append_nil, List.take_of_length_le (by simp at hn ⊢; omega)]
   rw [e]; exact h
 | v :: vs, w, b, j, cs, h, hn => by
   simp only [List.length_cons] at hn
   have ih := Bk.putF vs _ b (j + 1) _ (h.set j v) (by simp; omega)
   rw [putL]
   have e : ((cs.setIfInBounds j v).toList.take (j + 1) ++ vs).toArray = (cs.toList.take j ++ v :: vs).toArray := by
    congr 1
    have : (cs.setIfInBounds j v).toList.take (j + 1) = cs.toList.take j ++ [v] := by
     rw [List.take_add_one, Array.toList_setIfInBounds, List.take_set_of_le (Nat.le_refl _), List.getElem?_set_self (by simp; omega)]
     rfl
    rw [this, List.append_assoc]
    rfl
   rw [← e]; exact ih
theorem Bk.put {w : World} {b : Nat} {cs : Array Value} {T : TypeId} (h : Bk w b cs T) (vs : List Value) (hn : vs.length = cs.size) : Bk (putL w b 0 vs) b vs.toArray T := by
 have := Bk.putF vs w b 0 cs h (by omega)
 simpa using this
structure Apb (b : Nat) (w w' : World) : Prop where
 os : w'.os = w.os
 tape : w'.tape = w.tape
 output : w'.output = w.output
 size : w.heap.size ≤ w'.heap.size
 other : ∀ k, k < w.heap.size → k ≠ b → w'.heap[k]? = w.heap[k]?
theorem Apb.refl (b : Nat) (w : World) : Apb b w w := ⟨rfl, rfl, rfl, Nat.le_refl _, fun _ _ _ => rfl⟩
theorem Apb.drew {b : Nat} {v w : World} (h : Apb b v w) : Apb b v w.drew := ⟨h.os, h.tape, h.output, h.size, h.other⟩
theorem Apb.trans {b : Nat} {u v w : World} (h : Apb b u v) (k : Apb b v w) : Apb b u w :=
 ⟨k.os.trans h.os, k.tape.trans h.tape, k.output.trans h.output, Nat.le_trans h.size k.size, fun i hi hb => (k.other i (Nat.lt_of_lt_of_le hi h.size) hb).trans (h.other i hi hb)⟩
theorem Apb.set {b : Nat} {v w : World} (h : Apb b v w) (j : Nat) (u : Value) : Apb b v (w.setCell ⟨b, j, none⟩ u) :=
 ⟨h.os, h.tape, h.output, by simpa [World.setCell] using h.size, fun k hk hb => by rw [← h.other k hk hb]; simp [World.setCell, Array.getElem?_modify, Ne.symm hb]⟩
theorem Apb.then {b B : Nat} {u v w : World} (h : Apb b u v) (k : Below B v w) (hB : u.heap.size ≤ B) : Apb b u w :=
 ⟨k.os.trans h.os, k.tape.trans h.tape, k.output.trans h.output, Nat.le_trans h.size k.size, fun i hi hb => (k.block i (Nat.lt_of_lt_of_le hi hB)).trans (h.other i hi hb)⟩
theorem Apb.alloc {b : Nat} {v w : World} (h : Apb b v w) (o : Obj) : Apb b v (w.alloc o) := h.then (below_one w o) h.size
theorem Apb.own {b c : Nat} {v w : World} (h : Apb b v w) (hc : v.heap.size ≤ c) (j : Nat) (u : Value) : Apb b v (w.setCell ⟨c, j, none⟩ u) :=
 ⟨h.os, h.tape, h.output, by simpa [World.setCell] using h.size, fun k hk hb => by rw [← h.other k hk hb]; exact Below.heap_setCell _ _ _ _ (show k ≠ c by omega)⟩
theorem Apb.put {b c : Nat} {v w : World} (h : Apb b v w) (hc : v.heap.size ≤ c) (j : Nat) (vs : List Value) : Apb b v (putL w c j vs) :=
 ⟨(putL_io vs w c j).1.trans h.os, (putL_io vs w c j).2.1.trans h.tape, (putL_io vs w c j).2.2.trans h.output, by rw [putL_size]; exact h.size, fun k hk hb => (putL_heap vs w c j k (by omega)).trans (h.other k hk hb)⟩
theorem Apb.of_alloc {b : Nat} {w w' : World} {o : Obj} (h : Apb b (w.alloc o) w') : Apb b w w' :=
 ⟨h.os, h.tape, h.output, by have := h.size; simp at this; omega, fun k hk hb => (h.other k (by simp; omega) hb).trans (Below.heap_alloc w o k hk)⟩
theorem Apb.below {b : Nat} {w w' : World} (h : Apb b w w') (hb : b < w.heap.size) : Below b w w' := ⟨h.os, h.tape, h.output, h.size, fun k hk => h.other k (Nat.lt_trans hk hb) (Nat.ne_of_lt hk)⟩
theorem Bk.kept {w w' : World} {b c : Nat} {cs : Array Value} {T : TypeId} (h : Bk w c cs T) (hb : Apb b w w') (hne : c ≠ b) : Bk w' c cs T := (hb.other c h.lt hne).trans h
theorem Apb.grown {b : Nat} {u v w : World} {row : Option Nat} (h : Apb b u v) (hg : v.grownBy w row) (hrow : ∀ k, row = some k → u.heap.size ≤ k) : Apb b u w := by
 have hs := h.size
 exact ⟨hg.os.trans h.os, hg.tape.trans h.tape, hg.output.trans h.output, Nat.le_trans hs hg.size, fun k hk hb => (hg.block k (by omega) (fun e => by have := hrow k e.symm; omega)).trans (h.other k hk hb)⟩
theorem OwnG.kept {α : Type} {rd : α → List Value} {S : Nat} {w w' : World} {B b : Nat} {E : TypeId} {v : Value} {xs : List α} (h : OwnG w B E S rd v xs) (hb : Apb b w w') (hB : b < B) : OwnG w' B E S rd v xs := h.same fun k hk => hb.other k (h.lt k hk).2 (by have := (h.lt k hk).1; omega)
theorem SlG.kept {α : Type} {rd : α → List Value} {S : Nat} {w w' : World} {A : Option Addr} {xs : List α} {b B : Nat} (h : SlG w A S rd xs) (hb : Apb b w w') (hA : ∀ k, A.map (·.block) = some k → k ≠ b) : SlG w' A S rd xs := by
 rcases h with h | ⟨c, off, hA', hlt, h⟩
 · exact .inl h
 · refine .inr ⟨c, off, hA', Nat.lt_of_lt_of_le hlt hb.size, fun i x hx j u hu => ?_⟩
   have e := hb.other c hlt (hA c (by rw [hA']; rfl))
   rw [← h i x hx j u hu]
   simp only [World.cell?, e]
def stW : List (List UInt8 × Nd) := [(w_true, ⟨1, 0, tt⟩), (w_false, ⟨1, 0, ff⟩), (w_null, ⟨1, 0, nl⟩), (s_pl, ⟨2, 0, nl⟩), (s_mi, ⟨3, 0, nl⟩), (s_st, ⟨4, 0, nl⟩), (s_eq, ⟨5, 0, nl⟩), (s_lt, ⟨6, 0, nl⟩), (w_and, ⟨7, 0, nl⟩), (w_or, ⟨8, 0, nl⟩), (w_not, ⟨9, 0, nl⟩)]
def entsF : Nat → List (List UInt8 × Nd) → List MapEntry
 | _, [] => []
 | i, p :: r => ⟨.string (ba p.1), p.2.w, i⟩ :: entsF (i + 1) r
def stO (k : Nat) : Obj := .map (entsF 0 (stW.take k)).toArray k
def Tks (w : World) (B : Nat) (A : Option Addr) (l : List Tk) : Prop := l = [] ∨ ∃ c off, A = some ⟨c, off, none⟩ ∧ c < B ∧ ∀ i x, l[i]? = some x → ∀ j u, (rdT x)[j]? = some u → w.cell? ⟨c, off + i * 5 + j, none⟩ = some u
def Lm (l : List Tk) : Prop := l.length ≤ 20000 ∧ ∀ t ∈ l, mayT t = true
def Rq (w : World) (b : Nat) (l : List Tk) : Prop := ∃ A n c m, Bk w b #[.slice A n c, .map (some m)] 197 ∧ l.length = n ∧ n ≤ c ∧ c ≤ maxLen ∧ Tks w b A l ∧ m < b ∧ w.heap[m]? = some (stO 11) ∧ Lm l
theorem Tks.same {w w' : World} {B : Nat} {A : Option Addr} {l : List Tk} (h : Tks w B A l) (hs : ∀ k, k < B → w'.heap[k]? = w.heap[k]?) : Tks w' B A l := by
 rcases h with h | ⟨c, off, hA, hc, h⟩
 · exact .inl h
 · exact .inr ⟨c, off, hA, hc, fun i x hx j u hu => by rw [← h i x hx j u hu]; simp only [World.cell?, hs c hc]⟩
theorem Tks.drop {w : World} {b off n B : Nat} {l : List Tk} (h : Tks w B (some ⟨b, off, none⟩) l) (k : Nat) : Tks w B (some ⟨b, off + k * 5, none⟩) (l.drop k) := by
 rcases h with h | ⟨c, o, hA, hc, h⟩
 · subst h; exact .inl (by simp)
 · simp only [Option.some.injEq, Addr.mk.injEq, and_true] at hA
   obtain ⟨rfl, rfl⟩ := hA
   refine .inr ⟨b, off + k * 5, rfl, hc, fun i x hx j u hu => ?_⟩
   rw [List.getElem?_drop] at hx
   have := h _ x hx j u hu
   rw [← this]
   congr 2
   rw [Nat.add_mul]
   omega
theorem Rq.lt {w : World} {b : Nat} {l : List Tk} (h : Rq w b l) : b < w.heap.size := by obtain ⟨A, n, c, m, hb, _⟩ := h; exact hb.lt
theorem Rq.same {w w' : World} {b : Nat} {l : List Tk} (h : Rq w b l) (hs : ∀ k, k ≤ b → w'.heap[k]? = w.heap[k]?) : Rq w' b l := by
 obtain ⟨A, n, c, m, h1, h2, h3, h4, h5, h6, h7, h8⟩ := h
 exact ⟨A, n, c, m, (hs b (Nat.le_refl _)).trans h1, h2, h3, h4, h5.same fun k hk => hs k (by omega), h6, (hs m (by omega)).trans h7, h8⟩
theorem Rq.after {w w' : World} {b B : Nat} {l : List Tk} (h : Rq w b l) (hb : Below B w w') (hB : b < B) : Rq w' b l := h.same fun k hk => hb.block k (by omega)
theorem Rq.alloc {w : World} {b : Nat} {l : List Tk} (h : Rq w b l) (o : Obj) : Rq (w.alloc o) b l := h.after (below_one w o) h.lt
theorem Rq.own {w : World} {b c : Nat} {l : List Tk} (h : Rq w b l) (hc : b < c) (j : Nat) (u : Value) : Rq (w.setCell ⟨c, j, none⟩ u) b l := h.same fun k hk => Below.heap_setCell _ _ _ _ (show k ≠ c by omega)
theorem Rq.put {w : World} {b c : Nat} {l : List Tk} (h : Rq w b l) (hc : b < c) (j : Nat) (vs : List Value) : Rq (putL w c j vs) b l := h.same fun k hk => putL_heap vs w c j k (by omega)
theorem Rq.may {w : World} {b : Nat} {l : List Tk} (h : Rq w b l) : ∀ t ∈ l, mayT t = true := by obtain ⟨A, n, c, m, _, _, _, _, _, _, _, h8⟩ := h; exact h8.2
theorem Rq.len {w : World} {b : Nat} {l : List Tk} (h : Rq w b l) : l.length ≤ 20000 := by obtain ⟨A, n, c, m, _, _, _, _, _, _, _, h8⟩ := h; exact h8.1
def rqLen (w : World) (b : Nat) : Nat := match w.cell? ⟨b, 0, none⟩ with
 | some (.slice _ n _) => n
 | _ => 0
theorem Rq.left {w : World} {b : Nat} {l : List Tk} (h : Rq w b l) : rqLen w b = l.length := by
 obtain ⟨A, n, c, m, hb, hn, _⟩ := h
 unfold rqLen
 rw [hb.cell 0, hn]
 rfl
theorem Rq.drew {w : World} {b : Nat} {l : List Tk} (h : Rq w b l) : Rq w.drew b l := h
def seesB : List (List UInt8) → List Tk → Bool
 | [], _ => true
 | _ :: _, [] => false
 | s :: ws, t :: r => (t.t.data.toList == s) && seesB ws r
theorem seesB_len : ∀ (ws : List (List UInt8)) (l : List Tk), seesB ws l = true → ws.length ≤ l.length
 | [], _, _ => Nat.zero_le _
 | _ :: _, [], h => by cases h
 | s :: ws, t :: r, h => by
   rw [seesB, Bool.and_eq_true] at h
   have := seesB_len ws r h.2
   simp; omega
theorem seesB_at : ∀ (ws : List (List UInt8)) (l : List Tk) (k : Nat) (s : List UInt8) (t : Tk), ws[k]? = some s → l[k]? = some t → (t.t.data.toList == s) = false → seesB ws l = false
 | [], _, _, _, _, h, _, _ => by simp at h
 | _ :: _, [], _, _, _, _, h, _ => by simp at h
 | s :: ws, t :: r, 0, s', t', h, h', e => by
   simp at h h'; subst h h'
   rw [seesB, e]; rfl
 | s :: ws, t :: r, k + 1, s', t', h, h', e => by
   rw [seesB, seesB_at ws r k s' t' (by simpa using h) (by simpa using h') e, Bool.and_false]
theorem seesB_all : ∀ (ws : List (List UInt8)) (l : List Tk), ws.length ≤ l.length → (∀ (k : Nat) (s : List UInt8) (t : Tk), ws[k]? = some s → l[k]? = some t → (t.t.data.toList == s) = true) → seesB ws l = true
 | [], _, _, _ => rfl
 | _ :: _, [], h, _ => by simp at h
 | s :: ws, t :: r, h, ha => by
   rw [seesB, ha 0 s t rfl rfl, seesB_all ws r (by simpa using h) (fun k s' t' h1 h2 => ha (k + 1) s' t' (by simpa using h1) (by simpa using h2))]
   rfl
set_option maxHeartbeats 1000000 in
theorem done_c (b : Nat) (l : List Tk) (w : World) (hR : Rq w b l) : Calls Tryz.prog 161 #[.pointer (some ⟨b, 0, none⟩)] w fun e w' => e = .returned (.bool l.isEmpty) ∧ w' = w := by
 obtain ⟨A, n, c, m, hb, hn, hc, hm, _, _, _, _⟩ := hR
 have c0 := hb.cell 0
 simp only [List.getElem?_toArray, List.getElem?_cons_zero] at c0
 have hE : l.isEmpty = decide ((n : Int) = 0) := by
  rw [← hn]
  cases l with
  | nil => rfl
  | cons t r =>
    have : ¬ (((t :: r).length : Int) = 0) := by simp; omega
    rw [decide_eq_false this]; rfl
 rw [hE]
 clear hn hE hb
 go_enter Tryz.func161, Tryz.ntmps161
 go_wp2
 go_ret
 exact ⟨by first | rfl | simp, rfl⟩
set_option maxHeartbeats 2000000 in
theorem sees_c (b : Nat) (l : List Tk) (ws : List (List UInt8)) (Aw : Option Addr) (nw cw : Nat) (w : World) (hR : Rq w b l) (hW : SlG w Aw 1 rdS ws) (hnw : ws.length = nw) (hmw : nw ≤ maxLen) :
 Calls Tryz.prog 193 #[.pointer (some ⟨b, 0, none⟩), .slice Aw nw cw] w fun e w' => e = .returned (.bool (seesB ws l)) ∧ w' = w := by
 unfold maxLen at hmw
 obtain ⟨A, n, c, m, hb, hn, hc, hm, hT, _, _, _⟩ := hR
 unfold maxLen at hm
 have c0 := hb.cell 0
 simp only [List.getElem?_toArray, List.getElem?_cons_zero] at c0
 obtain ⟨R, hRe⟩ : ∃ R, seesB ws l = R := ⟨_, rfl⟩
 rw [hRe]
 have HR := Lib.hid hRe
 have HT := Lib.hid hT
 have HW := Lib.hid hW
 have Hn := Lib.hid hn
 have Hw := Lib.hid hnw
 clear hb hRe hT hW hn hnw
 by_cases hlt : n < nw
 · have hRf : R = false := by
    rw [← HR.out, ← Bool.not_eq_true]
    intro h
    have := seesB_len ws l h
    have h1 := Hn.out
    have h2 := Hw.out
    omega
   subst hRf
   clear HR HT HW Hn Hw
   go_enter Tryz.func193, Tryz.ntmps193
   go_wp2
   go_ret
   exact ⟨rfl, rfl⟩
 · go_enter Tryz.func193, Tryz.ntmps193
   go_wp2_with fail
   go_loopw [17] (fun i wr => ∃ k : Nat, k ≤ nw ∧ i = .int .i64 k ∧ w = wr ∧ Hid (∀ (j : Nat) (s : List UInt8) (t : Tk), j < k → ws[j]? = some s → l[j]? = some t → (t.t.data.toList == s) = true)) (fun i _ => nw - (intOf i).toNat)
   case atStart => exact ⟨0, Nat.zero_le _, rfl, rfl, Lib.hid (fun j s t h => absurd h (Nat.not_lt_zero _))⟩
   case round =>
    obtain ⟨k, hk, rfl, rfl, hA⟩ := hrel
    by_cases hlt2 : k < nw
    · obtain ⟨b1, o1, s, hA1, hb1, hs, d1⟩ := HW.out.at1 (by rw [Hw.out]; exact hlt2)
      have d1 := d1 _ rfl
      have hl : k < l.length := by rw [Hn.out]; omega
      obtain ⟨t, ht⟩ : ∃ t, l[k]? = some t := ⟨_, List.getElem?_eq_getElem hl⟩
      obtain ⟨b2, o2, hA2, hb2, h2⟩ : ∃ b2 o2, A = some ⟨b2, o2, none⟩ ∧ b2 < b ∧ ∀ i x, l[i]? = some x → ∀ j u, (rdT x)[j]? = some u → w.cell? ⟨b2, o2 + i * 5 + j, none⟩ = some u := by
       rcases HT.out with h | h
       · rw [h] at hl; simp at hl
       · exact h
      have d2 := h2 k t ht 1 _ rfl
      have Hs := Lib.hid hs
      have Ht := Lib.hid ht
      subst hA1 hA2
      clear hs ht h2 HW HT hl
      obtain ⟨u, hu⟩ : ∃ u : ByteArray, (⟨s.toArray⟩ : ByteArray) = u := ⟨_, rfl⟩
      rw [hu] at d1
      have hus : u.data.toList = s := by rw [← hu]
      have Hus := Lib.hid hus
      clear hu hus
      have he : (t.t.toList == u.toList) = (t.t.data.toList == s) := by rw [ByteArray.toList_eq, ByteArray.toList_eq, Hus.out]
      cases hq : (t.t.data.toList == s)
      · have hRf : R = false := by rw [← HR.out]; exact seesB_at ws l k s t Hs.out Ht.out hq
        subst hRf
        rw [hq] at he
        have hne : (t.t.toList != u.toList) = true := by rw [bne, he]; rfl
        clear HR hq hA Hs Ht Hus
        go_wp2
        go_ret
        exact ⟨rfl, rfl⟩
      · rw [hq] at he
        have hne : (t.t.toList != u.toList) = false := by rw [bne, he]; rfl
        have hA2 : ∀ (j : Nat) (s : List UInt8) (t : Tk), j < k + 1 → ws[j]? = some s → l[j]? = some t → (t.t.data.toList == s) = true := by
         intro j s' t' hj h1 h2
         by_cases hjk : j = k
         · subst hjk
           rw [Hs.out] at h1; rw [Ht.out] at h2
           simp at h1 h2; subst h1 h2
           exact hq
         · exact hA.out j s' t' (by omega) h1 h2
        have HA2 := Lib.hid hA2
        clear HR hq hA Hs Ht Hus hA2
        go_wp2
        go_roundw
        case rel => exact ⟨k + 1, by omega, by go_num, trivial, HA2⟩
        case measure => simp [intOf]; omega
    · have hke : k = nw := by omega
      have hRt : R = true := by
       rw [← HR.out]
       refine seesB_all ws l (by rw [Hn.out, Hw.out]; omega) fun j s t h1 h2 => hA.out j s t ?_ h1 h2
       have := (List.getElem?_eq_some_iff.1 h1).1
       rw [Hw.out] at this; omega
      subst hRt hke
      clear HR hA HT HW Hn Hw hk hlt2
      go_wp2
      go_ret
      exact ⟨rfl, rfl⟩
set_option maxHeartbeats 2000000 in
theorem has_c (b : Nat) (l : List Tk) (ws : List (List UInt8)) (Aw : Option Addr) (nw cw : Nat) (w : World) (hR : Rq w b l) (hW : SlG w Aw 1 rdS ws) (hnw : ws.length = nw) (hmw : nw ≤ maxLen) (h0 : 0 < nw) :
 Calls Tryz.prog 190 #[.pointer (some ⟨b, 0, none⟩), .slice Aw nw cw] w fun e w' => e = .returned (.bool (seesB ws l)) ∧ Rq w' b (if seesB ws l then l.drop nw else l) ∧ Apb b w w' := by
 have HS := Lib.hid (sees_c b l ws Aw nw cw w hR hW hnw hmw)
 have hle : seesB ws l = true → nw ≤ l.length := fun h => by have := seesB_len ws l h; omega
 have Hle := Lib.hid hle
 obtain ⟨R, hRe⟩ : ∃ R, seesB ws l = R := ⟨_, rfl⟩
 rw [hRe] at HS Hle ⊢
 have HR := Lib.hid hR
 clear hW hnw hRe hR hle
 unfold maxLen at hmw
 cases R
 · clear Hle
   go_enter Tryz.func190, Tryz.ntmps190
   go_wp2_with fail
   refine HS.out.mono ?_
   rintro e w1 ⟨rfl, rfl⟩
   clear HS
   go_wp2
   go_ret
   exact ⟨rfl, HR.out, Apb.refl b w1⟩
 · have hl := Hle.out rfl
   obtain ⟨A, n, c, m, hb, hn, hc, hm, hT, hmb, hmo, hmay⟩ := HR.out
   unfold maxLen at hm
   obtain ⟨c2, off, hA, hcb, hT2⟩ : ∃ c2 off, A = some ⟨c2, off, none⟩ ∧ c2 < b ∧ Tks w b (some ⟨c2, off, none⟩) l := by
    rcases hT with h | ⟨c2, off, hA, hcb, h⟩
    · subst h; simp at hl; omega
    · exact ⟨c2, off, hA, hcb, .inr ⟨c2, off, rfl, hcb, h⟩⟩
   subst hA
   have hln : nw ≤ n := by omega
   have c0 := hb.cell 0
   simp only [List.getElem?_toArray, List.getElem?_cons_zero] at c0
   have f0 := hb.thaw 0
   have HT2 := Lib.hid hT2
   have Hb := Lib.hid hb
   have Hmo := Lib.hid hmo
   have Hn := Lib.hid hn
   have Hmay := Lib.hid hmay
   clear hT hT2 hb hmo hmay hn hl Hle HR
   have key : ∀ A', Tks w b A' (l.drop nw) → Rq (w.setCell ⟨b, 0, none⟩ (.slice A' (n - nw) (c - nw))) b (l.drop nw) := fun A' hA' => by
    refine ⟨A', n - nw, c - nw, m, Hb.out.set 0 _, by rw [List.length_drop, Hn.out], by omega, by unfold maxLen; omega, hA'.same fun k hk => Below.heap_setCell _ _ _ _ (show k ≠ b by omega), hmb, ?_, by rw [List.length_drop]; have := Hmay.out.1; omega, fun t ht => Hmay.out.2 t (List.mem_of_mem_drop ht)⟩
    exact (Below.heap_setCell _ _ _ _ (show m ≠ b by omega)).trans Hmo.out
   have Key := Lib.hid key
   clear key
   by_cases hcn : c = nw
   · obtain rfl : c = n := by omega
     subst hcn
     have hd : l.drop c = [] := by rw [List.drop_eq_nil_iff, Hn.out]; exact Nat.le_refl _
     have hk0 := Key.out (some ⟨c2, off, none⟩) (.inl hd)
     rw [Nat.sub_self] at hk0
     have Hk := Lib.hid hk0
     clear hk0
     clear Key hd HT2
     go_enter Tryz.func190, Tryz.ntmps190
     go_wp2_with fail
     refine HS.out.mono ?_
     rintro e w1 ⟨rfl, rfl⟩
     clear HS
     go_wp2
     go_ret
     exact ⟨rfl, Hk.out, (Apb.refl b _).set 0 _⟩
   · have hlt : nw < c := by omega
     have Hk := Lib.hid (Key.out _ (HT2.out.drop (n := n) nw))
     clear Key HT2
     go_enter Tryz.func190, Tryz.ntmps190
     go_wp2_with fail
     refine HS.out.mono ?_
     rintro e w1 ⟨rfl, rfl⟩
     clear HS
     go_wp2
     go_ret
     exact ⟨rfl, Hk.out, (Apb.refl b _).set 0 _⟩
theorem may_isW {t : Tk} (h : mayT t = true) {s : List UInt8} (hs : s ≠ []) : isW s t = (t.t.data.toList == s) := by
 unfold isW
 by_cases hk : t.k = 1
 · have h2 : t.t.data.toList = [] := by
    unfold mayT at h
    simp [hk] at h
    have := h.1
    rw [← ByteArray.toList_eq]; exact this
   rw [h2]
   have : (([] : List UInt8) == s) = false := by
    cases s with
    | nil => exact absurd rfl hs
    | cons a r => rfl
   rw [this, Bool.and_false]
 · have : (t.k != 1) = true := by simpa using hk
   rw [this, Bool.true_and]
theorem sees_take {l : List Tk} (h : ∀ t ∈ l, mayT t = true) {s : List UInt8} (hs : s ≠ []) : (takeP s l).1 = seesB [s] l ∧ (takeP s l).2 = if seesB [s] l then l.drop 1 else l := by
 cases l with
 | nil => exact ⟨rfl, rfl⟩
 | cons t r =>
   have e := may_isW (h t (by simp)) hs
   rw [takeP, seesB, seesB, Bool.and_true, ← e]
   cases isW s t <;> exact ⟨rfl, rfl⟩
theorem need_take {s : List UInt8} (l : List Tk) : needP s l = if (takeP s l).1 then some (takeP s l).2 else none := by
 cases l with
 | nil => rfl
 | cons t r =>
   rw [needP, takeP]
   cases isW s t <;> rfl
abbrev wd1 (w : World) (s : List UInt8) : World := w.alloc (.cells #[.string (ba s)] 9)
theorem slW (w : World) (s : List UInt8) : SlG (wd1 w s) (some ⟨w.heap.size, 0, none⟩) 1 rdS [s] := SlG.new (rd := rdS) (S := 1) (fun _ => rfl) [s] rfl
theorem sees1_c (b g : Nat) (l : List Tk) (s : List UInt8) (hs : s ≠ []) (w : World) (hg : w.heap.size = g) (hR : Rq w b l) :
 Calls Tryz.prog 193 #[.pointer (some ⟨b, 0, none⟩), .slice (some ⟨g, 0, none⟩) 1 1] (wd1 w s) fun e w' => e = .returned (.bool (takeP s l).1) ∧ w' = wd1 w s := by
 subst hg
 rw [(sees_take hR.may hs).1]
 exact sees_c b l [s] _ 1 1 _ (hR.alloc _) (slW w s) rfl (by decide)
theorem has1_c (b g : Nat) (l : List Tk) (s : List UInt8) (hs : s ≠ []) (w : World) (hg : w.heap.size = g) (hR : Rq w b l) :
 Calls Tryz.prog 190 #[.pointer (some ⟨b, 0, none⟩), .slice (some ⟨g, 0, none⟩) 1 1] (wd1 w s) fun e w' => e = .returned (.bool (takeP s l).1) ∧ Rq w' b (takeP s l).2 ∧ Apb b w w' := by
 subst hg
 rw [(sees_take hR.may hs).1, (sees_take hR.may hs).2]
 refine (has_c b l [s] _ 1 1 _ (hR.alloc _) (slW w s) rfl (by decide) (by decide)).mono ?_
 rintro e w1 ⟨h1, h2, h3⟩
 exact ⟨h1, h2, h3.of_alloc⟩
set_option maxHeartbeats 1000000 in
theorem must1_c (b g : Nat) (l : List Tk) (s : List UInt8) (hs : s ≠ []) (w : World) (hg : w.heap.size = g) (hR : Rq w b l) :
 Calls Tryz.prog 186 #[.pointer (some ⟨b, 0, none⟩), .slice (some ⟨g, 0, none⟩) 1 1] (wd1 w s) fun e w' => match needP s l with
  | none => e = .panicked (boom 70) ∧ Apb b w w'
  | some r => e = .returned (.tuple #[]) ∧ Rq w' b r ∧ Apb b w w' := by
 have HH := Lib.hid (has1_c b g l s hs w hg hR)
 rw [need_take]
 obtain ⟨W, hW⟩ : ∃ W, wd1 w s = W := ⟨_, rfl⟩
 rw [hW] at HH ⊢
 cases hq : (takeP s l).1
 · simp only [Bool.false_eq_true, if_false]
   rw [hq] at HH
   clear hR hW hq
   go_enter Tryz.func186, Tryz.ntmps186
   go_wp2_with fail
   refine HH.out.mono ?_
   rintro e w1 ⟨rfl, _, hb⟩
   have Hb := Lib.hid hb
   clear HH hb
   go_wp2_with fail
   refine (req_no _).mono ?_
   rintro e w2 ⟨rfl, rfl⟩
   exact ⟨rfl, rfl, Hb.out⟩
 · simp only [if_true]
   rw [hq] at HH
   clear hR hW hq
   go_enter Tryz.func186, Tryz.ntmps186
   go_wp2_with fail
   refine HH.out.mono ?_
   rintro e w1 ⟨rfl, hr, hb⟩
   have Hb := Lib.hid hb
   have Hr := Lib.hid hr
   clear HH hb hr
   go_wp2_with fail
   refine (req_yes _).mono ?_
   rintro e w2 ⟨rfl, rfl⟩
   go_wp2
   go_end0
   exact ⟨rfl, Hr.out, Hb.out⟩
theorem ret_tok1 {fn : Func} {R : Ending → World → Prop} {F : Act} {w : World} {t : Tmp} {b : Nat} {a : Tk} (hres : fn.results = #[.cell t 129]) (ht : Reg.slot F t = .pointer (some ⟨b, 0, none⟩)) (hb : Bt w b a) (hd : F.defers = [])
 (hR : R (.returned a.val) w) : bodyPost Tryz.prog fn R .ret F w := by
 have h0 := hb.cell0
 have h1 := hb.cell1
 have h2 := hb.cell2
 have h3 := hb.cell3
 have h4 := hb.cell4
 refine bodyPost_ret (v := a.val) ?_ hd hR
 have ht' : F.tmps[t]?.getD undef = .pointer (some ⟨b, 0, none⟩) := by simpa [Reg.slot] using ht
 simp [results, hres, ht', go_sem, h0, h1, h2, h3, h4]
set_option maxHeartbeats 2000000 in
theorem rtake_nil (b : Nat) (w : World) (hR : Rq w b []) :
 Calls Tryz.prog 184 #[.pointer (some ⟨b, 0, none⟩)] w fun e w' => e = .panicked (boom 70) ∧ Apb b w w' := by
 have HD := Lib.hid (done_c b [] _ (hR.alloc (tk0.obj)))
 clear hR
 go_enter Tryz.func184, Tryz.ntmps184
 go_wp2_with fail
 refine HD.out.mono ?_
 rintro e w1 ⟨rfl, rfl⟩
 have e0 : ([] : List Tk).isEmpty = true := rfl
 rw [e0]
 go_wp2_with fail
 refine (req_no _).mono ?_
 rintro e w2 ⟨rfl, rfl⟩
 exact ⟨rfl, rfl, (Apb.refl b w).alloc _⟩
set_option maxHeartbeats 2000000 in
theorem rtake_c (b : Nat) (t : Tk) (r : List Tk) (w : World) (hR : Rq w b (t :: r)) :
 Calls Tryz.prog 184 #[.pointer (some ⟨b, 0, none⟩)] w fun e w' => e = .returned t.val ∧ Rq w' b r ∧ Apb b w w' := by
 have HD := Lib.hid (done_c b (t :: r) _ (hR.alloc (tk0.obj)))
 have hbs := hR.lt
 obtain ⟨A, n, c, m, hb, hn, hc, hm, hT, hmb, hmo, hmay⟩ := hR
 unfold maxLen at hm
 obtain ⟨c2, off, hA, hcb, h2⟩ : ∃ c2 off, A = some ⟨c2, off, none⟩ ∧ c2 < b ∧ ∀ i x, (t :: r)[i]? = some x → ∀ j u, (rdT x)[j]? = some u → w.cell? ⟨c2, off + i * 5 + j, none⟩ = some u := by
  rcases hT with h | h
  · cases h
  · exact h
 subst hA
 have hn0 : 0 < n := by rw [← hn]; simp
 have hcs : c2 < w.heap.size := by omega
 have c0 := hb.cell 0
 simp only [List.getElem?_toArray, List.getElem?_cons_zero] at c0
 have f0 := hb.thaw 0
 have d0 := h2 0 t rfl 0 _ rfl
 have d1 := h2 0 t rfl 1 _ rfl
 have d2 := h2 0 t rfl 2 _ rfl
 have d3 := h2 0 t rfl 3 _ rfl
 have d4 := h2 0 t rfl 4 _ rfl
 simp only [Nat.zero_mul, Nat.add_zero] at d0 d1 d2 d3 d4
 have key : ∀ A', Tks w b A' r → Rq (w.setCell ⟨b, 0, none⟩ (.slice A' (n - 1) (c - 1))) b r := fun A' hA' => by
  refine ⟨A', n - 1, c - 1, m, hb.set 0 _, by rw [← hn]; simp, by omega, by unfold maxLen; omega, hA'.same fun k hk => Below.heap_setCell _ _ _ _ (show k ≠ b by omega), hmb, ?_, by have := hmay.1; simp at this; omega, fun t ht => hmay.2 t (List.mem_cons_of_mem _ ht)⟩
  exact (Below.heap_setCell _ _ _ _ (show m ≠ b by omega)).trans hmo
 have hT2 : Tks w b (some ⟨c2, off + 1 * 5, none⟩) r := by
  have := Tks.drop (n := n) (.inr ⟨c2, off, rfl, hcb, h2⟩ : Tks w b (some ⟨c2, off, none⟩) (t :: r)) 1
  exact this
 have hT0 : c = 1 → Tks w b (some ⟨c2, off, none⟩) r := fun h1 => .inl (by
  have : r.length = 0 := by simp at hn; omega
  exact List.eq_nil_of_length_eq_zero this)
 have hfin : ∀ (v : World), v.heap.size = w.heap.size → Rq v b r → Apb b w v → Bt ((v.alloc t.obj).alloc t.obj) w.heap.size t ∧ Rq ((v.alloc t.obj).alloc t.obj) b r ∧ Apb b w ((v.alloc t.obj).alloc t.obj) := fun v hv hr ha => by
  refine ⟨?_, (hr.alloc _).alloc _, (ha.alloc _).alloc _⟩
  rw [← hv]
  exact (Bt.new v t).after (below_one _ _)
 have hset : ∀ v : Value, (w.setCell ⟨b, 0, none⟩ v).heap.size = w.heap.size := fun v => by simp [World.setCell]
 have Hset := Lib.hid hset
 have Hfin := Lib.hid hfin
 have Key := Lib.hid key
 have HT2 := Lib.hid hT2
 have HT0 := Lib.hid hT0
 clear key hT2 hT0 h2 hT hb hmo hmay hn hfin hset
 go_enter Tryz.func184, Tryz.ntmps184
 go_wp2_with fail
 refine HD.out.mono ?_
 rintro e w1 ⟨rfl, rfl⟩
 have e0 : (t :: r).isEmpty = false := rfl
 rw [e0]
 clear HD e0
 go_wp2_with fail
 refine (req_yes _).mono ?_
 rintro e w2 ⟨rfl, rfl⟩
 by_cases hc1 : c = 1
 · have HK := Lib.hid (Key.out _ (HT0.out hc1))
   obtain rfl : n = 1 := by omega
   subst hc1
   clear Key HT0 HT2
   go_wp2
   obtain ⟨h1, h2, h3⟩ := Hfin.out _ (Hset.out _) HK.out ((Apb.refl b w).set 0 _)
   exact ret_tok1 Tryz.results184 rfl h1 rfl ⟨rfl, h2, h3⟩
 · have HK := Lib.hid (Key.out _ HT2.out)
   clear Key HT0 HT2
   go_wp2
   obtain ⟨h1, h2, h3⟩ := Hfin.out _ (Hset.out _) HK.out ((Apb.refl b w).set 0 _)
   exact ret_tok1 Tryz.results184 rfl h1 rfl ⟨rfl, h2, h3⟩
set_option maxHeartbeats 4000000 in
theorem kept_c (s : ByteArray) (w : World) : Calls Tryz.prog 205 #[.string s] w fun e w' => e = .returned (.bool (kws.contains s.data.toList)) ∧ w' = w := by
 obtain ⟨R, hR⟩ : ∃ R, kws.contains s.data.toList = R := ⟨_, rfl⟩
 rw [hR]
 rw [← ByteArray.toList_eq] at hR
 have HR := Lib.hid hR
 clear hR
 go_enter Tryz.func205, Tryz.ntmps205
 go_wp2
 all_goals go_ret
 all_goals (refine ⟨?_, rfl⟩)
 all_goals first
  | (exfalso; rename_i h1 h2; rw [h1] at h2; exact absurd h2 (by decide))
  | (show Ending.returned (.bool _) = _
     congr 2
     rw [← HR.out]
     clear HR
     simp only [kws, List.contains_cons, List.contains_nil]
     simp only [w_table, w_check, w_view, w_from, w_join, w_on, w_where, w_pick, w_group, w_bool, w_int, w_text, w_null, w_unique, w_ref, w_restrict, w_cascade, w_setnull, w_count, w_sum, w_min, w_max, w_true, w_false, w_and, w_or, w_not, *]
     rfl)
theorem isCol_c (n : Int) (w : World) : Calls Tryz.prog 207 #[.int .i64 n] w fun e w' => e = .returned (.bool (colB n)) ∧ w' = w := by
 unfold colB
 by_cases h : 0 ≤ n
 · have h1 : decide (0 ≤ n) = true := by simpa using h
   rw [h1]
   go_enter Tryz.func207, Tryz.ntmps207
   go_wp2
   go_ret
   exact ⟨by first | rfl | simp, rfl⟩
 · have h1 : decide (0 ≤ n) = false := by simpa using h
   rw [h1]
   go_enter Tryz.func207, Tryz.ntmps207
   go_wp2
   go_ret
   exact ⟨by first | rfl | simp, rfl⟩
theorem name_may {t : Tk} (h : mayT t = true) (r : List Tk) : nameP (t :: r) = if t.k = 0 ∧ kws.contains t.t.data.toList = false then some (t.t, r) else none := by
 rw [nameP]
 by_cases hk : t.k = 0
 · have hw : wordB t.t.data.toList = true := by
    unfold mayT at h
    simp [hk] at h
    exact h.1
   have e0 : (t.k == 0) = true := by simpa using hk
   rw [e0, Bool.true_and, nameB, hw, Bool.true_and]
   cases kws.contains t.t.data.toList <;> simp [hk]
 · have e0 : (t.k == 0) = false := by simpa using hk
   rw [e0, Bool.false_and]
   simp [hk]
set_option maxHeartbeats 4000000 in
theorem name_cR (b : Nat) (l : List Tk) (w : World) (hR : Rq w b l) :
 Calls Tryz.prog 185 #[.pointer (some ⟨b, 0, none⟩)] w fun e w' => match nameP l with
  | none => e = .panicked (boom 70) ∧ Apb b w w'
  | some q => e = .returned (.string q.1) ∧ Rq w' b q.2 ∧ Apb b w w' := by
 cases l with
 | nil =>
   have HT := Lib.hid (rtake_nil b w hR)
   show Calls _ _ _ _ fun e w' => e = .panicked (boom 70) ∧ Apb b w w'
   clear hR
   go_enter Tryz.func185, Tryz.ntmps185
   go_wp2_with fail
   refine HT.out.mono ?_
   rintro e w1 ⟨rfl, hb⟩
   exact ⟨rfl, rfl, hb⟩
 | cons t r =>
   have HT := Lib.hid (rtake_c b t r w hR)
   rw [name_may (hR.may t (by simp))]
   clear hR
   by_cases hk : t.k = 0
   · cases hc : kws.contains t.t.data.toList
     · rw [if_pos ⟨hk, rfl⟩]
       show Calls _ _ _ _ fun e w' => e = .returned (.string t.t) ∧ Rq w' b r ∧ Apb b w w'
       have HK := Lib.hid (fun v => kept_c t.t v)
       rw [hc] at HK
       have e0 : (t.k == 0) = true := by simpa using hk
       have e1 : decide (t.k = 0) = true := by simpa using hk
       clear hk hc
       go_enter Tryz.func185, Tryz.ntmps185
       go_wp2_with fail
       refine HT.out.mono ?_
       rintro e w1 ⟨rfl, hr, hb⟩
       have Hr := Lib.hid hr
       have Hb := Lib.hid hb
       clear HT hr hb
       go_wp2_with fail
       refine (HK.out _).mono ?_
       rintro e w2 ⟨rfl, rfl⟩
       go_wp2_with fail
       refine (req_yes _).mono ?_
       rintro e w3 ⟨rfl, rfl⟩
       go_wp2
       go_ret
       exact ⟨rfl, Hr.out.alloc _, Hb.out.alloc _⟩
     · rw [if_neg (by simp)]
       show Calls _ _ _ _ fun e w' => e = .panicked (boom 70) ∧ Apb b w w'
       have HK := Lib.hid (fun v => kept_c t.t v)
       rw [hc] at HK
       have e0 : (t.k == 0) = true := by simpa using hk
       have e1 : decide (t.k = 0) = true := by simpa using hk
       clear hk hc
       go_enter Tryz.func185, Tryz.ntmps185
       go_wp2_with fail
       refine HT.out.mono ?_
       rintro e w1 ⟨rfl, hr, hb⟩
       have Hr := Lib.hid hr
       have Hb := Lib.hid hb
       clear HT hr hb
       go_wp2_with fail
       refine (HK.out _).mono ?_
       rintro e w2 ⟨rfl, rfl⟩
       go_wp2_with fail
       refine (req_no _).mono ?_
       rintro e w3 ⟨rfl, rfl⟩
       exact ⟨rfl, rfl, Hb.out.alloc _⟩
   · rw [if_neg (fun h => hk h.1)]
     show Calls _ _ _ _ fun e w' => e = .panicked (boom 70) ∧ Apb b w w'
     have e0 : (t.k == 0) = false := by simpa using hk
     have e1 : decide (t.k = 0) = false := by simpa using hk
     clear hk
     go_enter Tryz.func185, Tryz.ntmps185
     go_wp2_with fail
     refine HT.out.mono ?_
     rintro e w1 ⟨rfl, hr, hb⟩
     have Hr := Lib.hid hr
     have Hb := Lib.hid hb
     clear HT hr hb
     go_wp2_with fail
     refine (req_no _).mono ?_
     rintro e w3 ⟨rfl, rfl⟩
     exact ⟨rfl, rfl, Hb.out.alloc _⟩
theorem col_may {t : Tk} (h : mayT t = true) (r : List Tk) : colP (t :: r) = if t.v.k = 2 ∧ colB t.v.n = true then some (t.v.n, r) else none := by
 rw [colP]
 unfold colB
 by_cases hk : t.v.k = 2
 · have h1 : t.k = 1 := by
    unfold mayT at h
    by_cases h0 : t.k = 1
    · exact h0
    · exfalso
      have h5 : t.v.k = 0 := by
       have hv : ∀ x : Val, x.eq nl = true → x.k = 0 := fun x hx => by rw [Val.eq_iff.1 hx]; rfl
       by_cases h2 : t.k = 0
       · simp [h2] at h
         first | exact hv _ h.2 | (rw [h.2]) | (have := h.2; rw [this])
       · by_cases h3 : t.k = 2
         · simp [h3] at h
           first | exact hv _ h.2 | (rw [h.2]) | (have := h.2; rw [this])
         · simp [h0, h2, h3] at h
      omega
   have e0 : (t.k == 1) = true := by simpa using h1
   have e1 : (t.v.k == 2) = true := by simpa using hk
   rw [e0, e1, Bool.true_and, Bool.true_and]
   simp [hk]
 · have e1 : (t.v.k == 2) = false := by simpa using hk
   rw [e1, Bool.false_and, Bool.and_false]
   simp [hk]
set_option maxHeartbeats 4000000 in
theorem col_cR (b : Nat) (l : List Tk) (w : World) (hR : Rq w b l) :
 Calls Tryz.prog 195 #[.pointer (some ⟨b, 0, none⟩)] w fun e w' => match colP l with
  | none => e = .panicked (boom 70) ∧ Apb b w w'
  | some q => e = .returned (.int .i64 q.1) ∧ Rq w' b q.2 ∧ Apb b w w' := by
 cases l with
 | nil =>
   have HT := Lib.hid (rtake_nil b w hR)
   show Calls _ _ _ _ fun e w' => e = .panicked (boom 70) ∧ Apb b w w'
   clear hR
   go_enter Tryz.func195, Tryz.ntmps195
   go_wp2_with fail
   refine HT.out.mono ?_
   rintro e w1 ⟨rfl, hb⟩
   exact ⟨rfl, rfl, hb⟩
 | cons t r =>
   have HT := Lib.hid (rtake_c b t r w hR)
   rw [col_may (hR.may t (by simp))]
   clear hR
   by_cases hk : t.v.k = 2
   · cases hc : colB t.v.n
     · rw [if_neg (by simp)]
       show Calls _ _ _ _ fun e w' => e = .panicked (boom 70) ∧ Apb b w w'
       have HK := Lib.hid (fun v => isCol_c t.v.n v)
       rw [hc] at HK
       have e0 : (t.v.k == 2) = true := by simpa using hk
       have e1 : decide (t.v.k = 2) = true := by simpa using hk
       clear hk hc
       go_enter Tryz.func195, Tryz.ntmps195
       go_wp2_with fail
       refine HT.out.mono ?_
       rintro e w1 ⟨rfl, hr, hb⟩
       have Hr := Lib.hid hr
       have Hb := Lib.hid hb
       clear HT hr hb
       go_wp2_with fail
       refine (HK.out _).mono ?_
       rintro e w2 ⟨rfl, rfl⟩
       go_wp2_with fail
       refine (req_no _).mono ?_
       rintro e w3 ⟨rfl, rfl⟩
       exact ⟨rfl, rfl, Hb.out.alloc _⟩
     · rw [if_pos ⟨hk, rfl⟩]
       show Calls _ _ _ _ fun e w' => e = .returned (.int .i64 t.v.n) ∧ Rq w' b r ∧ Apb b w w'
       have HK := Lib.hid (fun v => isCol_c t.v.n v)
       rw [hc] at HK
       have e0 : (t.v.k == 2) = true := by simpa using hk
       have e1 : decide (t.v.k = 2) = true := by simpa using hk
       clear hk hc
       go_enter Tryz.func195, Tryz.ntmps195
       go_wp2_with fail
       refine HT.out.mono ?_
       rintro e w1 ⟨rfl, hr, hb⟩
       have Hr := Lib.hid hr
       have Hb := Lib.hid hb
       clear HT hr hb
       go_wp2_with fail
       refine (HK.out _).mono ?_
       rintro e w2 ⟨rfl, rfl⟩
       go_wp2_with fail
       refine (req_yes _).mono ?_
       rintro e w3 ⟨rfl, rfl⟩
       go_wp2
       go_ret
       exact ⟨rfl, Hr.out.alloc _, Hb.out.alloc _⟩
   · rw [if_neg (fun h => hk h.1)]
     show Calls _ _ _ _ fun e w' => e = .panicked (boom 70) ∧ Apb b w w'
     have e0 : (t.v.k == 2) = false := by simpa using hk
     have e1 : decide (t.v.k = 2) = false := by simpa using hk
     clear hk
     go_enter Tryz.func195, Tryz.ntmps195
     go_wp2_with fail
     refine HT.out.mono ?_
     rintro e w1 ⟨rfl, hr, hb⟩
     have Hr := Lib.hid hr
     have Hb := Lib.hid hb
     clear HT hr hb
     go_wp2_with fail
     refine (req_no _).mono ?_
     rintro e w3 ⟨rfl, rfl⟩
     exact ⟨rfl, rfl, Hb.out.alloc _⟩
theorem ba_beq {s : List UInt8} {b : ByteArray} : (b.data.toList == s) = decide (ba s = b) := by
 rw [Bool.eq_iff_iff, beq_iff_eq, decide_eq_true_eq]
 constructor
 · intro h; obtain ⟨⟨l⟩⟩ := b; simp at h; rw [h]
 · intro h; rw [← h]
def idxV : Option Int → Int
 | none => -1
 | some k => k
theorem oneF_idx {t : Tk} (h : mayT t = true) : ∀ (ws : List (List UInt8)) (i : Nat), (∀ s ∈ ws, s ≠ []) → Lib.idxFromS (ws.map ba) t.t i = idxV (oneF ws (i : Int) t)
 | [], i, _ => rfl
 | s :: ws, i, hs => by
   have ih := oneF_idx h ws (i + 1) (fun x hx => hs x (List.mem_cons_of_mem _ hx))
   have e := may_isW h (hs s (by simp))
   rw [List.map_cons, Lib.idxFromS, oneF, e, ba_beq, ih]
   by_cases hb : ba s = t.t
   · rw [if_pos hb, if_pos (by simpa using hb)]; rfl
   · rw [if_neg hb, if_neg (by simpa using hb)]; rfl
theorem oneF_pos {t : Tk} : ∀ (ws : List (List UInt8)) (i k : Int), oneF ws i t = some k → i ≤ k ∧ k < i + ws.length
 | [], _, _, h => by cases h
 | s :: ws, i, k, h => by
   rw [oneF] at h
   split at h
   · simp at h; subst h; simp only [List.length_cons]; omega
   · have := oneF_pos ws (i + 1) k h
     simp only [List.length_cons]; omega
theorem SlG.map {w : World} {A : Option Addr} {ws : List (List UInt8)} (h : SlG w A 1 rdS ws) (hn : ws ≠ []) : ∃ b off, A = some ⟨b, off, none⟩ ∧ b < w.heap.size ∧ ∀ j, j < (ws.map ba).length → w.cell? ⟨b, off + j, none⟩ = some (.string ((ws.map ba).getD j ByteArray.empty)) := by
 rcases h with h | ⟨b, off, hA, hlt, h⟩
 · exact absurd h hn
 · refine ⟨b, off, hA, hlt, fun j hj => ?_⟩
   rw [List.length_map] at hj
   have := h j ws[j] (List.getElem?_eq_getElem hj) 0 _ rfl
   rw [Nat.mul_one, Nat.add_zero] at this
   rw [this]
   congr 2
   rw [List.getD_eq_getElem?_getD, List.getElem?_map, List.getElem?_eq_getElem hj]
   rfl
theorem run_tokText (t : Tk) (w : World) : (Instr.field 129 (.agg #[.int .i64 t.k, .string t.t, .int .i64 t.v.k, .int .i64 t.v.n, .string t.v.s]) 1).run Tryz.prog w = .ok (.string t.t) w := by kernel_rfl
set_option maxHeartbeats 4000000 in
theorem choice_cR (b : Nat) (l : List Tk) (ws : List (List UInt8)) (Aw : Option Addr) (nw cw : Nat) (w : World) (hR : Rq w b l) (hW : SlG w Aw 1 rdS ws) (hA : ∀ k, Aw.map (·.block) = some k → k ≠ b) (hnw : ws.length = nw) (hmw : nw ≤ maxLen) (h0 : ∀ s ∈ ws, s ≠ []) (hw0 : ws ≠ []) :
 Calls Tryz.prog 158 #[.pointer (some ⟨b, 0, none⟩), .slice Aw nw cw] w fun e w' => match oneP ws l with
  | none => e = .panicked (boom 70) ∧ Apb b w w'
  | some q => e = .returned (.int .i64 q.1) ∧ Rq w' b q.2 ∧ Apb b w w' := by
 cases l with
 | nil =>
   have HT := Lib.hid (rtake_nil b w hR)
   show Calls _ _ _ _ fun e w' => e = .panicked (boom 70) ∧ Apb b w w'
   clear hR hW hA hnw hmw h0 hw0
   go_enter Tryz.func158, Tryz.ntmps158
   go_wp2_with fail
   refine HT.out.mono ?_
   rintro e w1 ⟨rfl, hb⟩
   exact ⟨rfl, rfl, hb⟩
 | cons t r =>
   have HT := Lib.hid (rtake_c b t r w hR)
   have hI := oneF_idx (hR.may t (by simp)) ws 0 h0
   have HX : Hid (∀ w' , Apb b w w' → ∃ bw ow, Aw = some ⟨bw, ow, none⟩ ∧ ∀ j, j < (ws.map ba).length → w'.cell? ⟨bw, ow + j, none⟩ = some (.string ((ws.map ba).getD j ByteArray.empty))) := Lib.hid (fun w' hb => by
    obtain ⟨bw, ow, e1, _, e2⟩ := (hW.kept (B := 0) hb hA).map hw0
    exact ⟨bw, ow, e1, e2⟩)
   have hle : (ws.map ba).length = nw := by rw [List.length_map, hnw]
   unfold maxLen at hmw
   have HI : Hid (Lib.idxOfS ((ws.map ba).take nw) t.t = idxV (oneF ws 0 t)) := Lib.hid (by rw [List.take_of_length_le (by omega)]; exact hI)
   have Hle := Lib.hid hle
   show Calls _ _ _ _ fun e w' => match (oneF ws 0 t).map fun i => (i, r) with
    | none => e = .panicked (boom 70) ∧ Apb b w w'
    | some q => e = .returned (.int .i64 q.1) ∧ Rq w' b q.2 ∧ Apb b w w'
   clear hR hW hA hnw h0 hw0 hI hle
   cases ho : oneF ws 0 t with
   | none =>
     rw [ho] at HI
     show Calls _ _ _ _ fun e w' => e = .panicked (boom 70) ∧ Apb b w w'
     clear ho
     go_enter Tryz.func158, Tryz.ntmps158
     go_wp2_with fail
     refine HT.out.mono ?_
     rintro e w1 ⟨rfl, hr, hb⟩
     obtain ⟨bw, ow, rfl, hc⟩ := HX.out _ hb
     have Hb := Lib.hid hb
     have Hc := Lib.hid hc
     clear HT hr hb hc HX
     have hfld := run_tokText t
     go_wp2_with fail
     refine (Tryz.slices_Index_string bw ow nw cw (ws.map ba) t.t _ (by have := Hle.out; omega) (by omega) Hc.out).mono ?_
     rintro e w2 ⟨rfl, rfl⟩
     rw [HI.out]
     have e1 : idxV none = -1 := rfl
     rw [e1]
     clear HI Hc Hle
     go_wp2_with fail
     refine (req_no _).mono ?_
     rintro e w3 ⟨rfl, rfl⟩
     exact ⟨rfl, rfl, Hb.out⟩
   | some k =>
     rw [ho] at HI
     have hk := (oneF_pos ws 0 k ho).1
     have hk2 := (oneF_pos ws 0 k ho).2
     show Calls _ _ _ _ fun e w' => e = .returned (.int .i64 k) ∧ Rq w' b r ∧ Apb b w w'
     have hk3 : k ≤ 9223372036854775807 := by have := Hle.out; rw [List.length_map] at this; omega
     have hdk : decide (0 ≤ k) = true := by simpa using hk
     clear ho hk2
     go_enter Tryz.func158, Tryz.ntmps158
     go_wp2_with fail
     refine HT.out.mono ?_
     rintro e w1 ⟨rfl, hr, hb⟩
     obtain ⟨bw, ow, rfl, hc⟩ := HX.out _ hb
     have Hb := Lib.hid hb
     have Hr := Lib.hid hr
     have Hc := Lib.hid hc
     clear HT hr hb hc HX
     have hfld := run_tokText t
     go_wp2_with fail
     refine (Tryz.slices_Index_string bw ow nw cw (ws.map ba) t.t _ (by have := Hle.out; omega) (by omega) Hc.out).mono ?_
     rintro e w2 ⟨rfl, rfl⟩
     rw [HI.out]
     have e1 : idxV (some k) = k := rfl
     rw [e1]
     clear HI Hc Hle e1
     go_wp2_with fail
     refine (req_yes _).mono ?_
     rintro e w3 ⟨rfl, rfl⟩
     go_wp2
     go_ret
     exact ⟨rfl, Hr.out, Hb.out⟩
def AtS (o : Lib.NumEnd Int) (e : Ending) : Prop := match o with
 | .ok n => e = .returned (.tuple #[.int .i64 n, .nilIface])
 | _ => ∃ n p, e = .returned (.tuple #[.int .i64 n, .iface 261 (.pointer (some p))])
theorem atoi_c (d : ByteArray) (w : World) (hl : d.size ≤ 1000000) (hG : GL w) : Calls Tryz.prog 203 #[.string d] w fun e w' => AtS (Lib.atoiAll d.data.toList) e ∧ Below w.heap.size w w' := by
 cases ha : Lib.atoiAll d.data.toList with
 | ok v =>
   refine (Tryz.strconv_Atoi_ok d (by omega) v ha _).mono ?_
   rintro e w1 ⟨he, hb⟩
   refine ⟨he, ?_⟩
   rcases hb with rfl | ⟨t, rfl⟩
   · exact Below.refl _ _
   · exact Lib.bytesWorld_below _ _ _
 | «syntax» =>
   obtain ⟨tp, p, hv⟩ := hG.syn
   refine (Tryz.strconv_Atoi_syntax_var d (by omega) ha tp p _ hv).mono ?_
   rintro e w1 ⟨N, he, _, _, hb⟩
   exact ⟨⟨_, _, he⟩, hb⟩
 | range =>
   obtain ⟨tp, p, hv⟩ := hG.rng
   refine (Tryz.strconv_Atoi_range_var d (by omega) ha tp p _ hv).mono ?_
   rintro e w1 ⟨N, he, _, _, hb⟩
   exact ⟨⟨_, _, he⟩, hb⟩
theorem cnum_pre {l : List UInt8} (h : Lib.hasPrefix l [99] = false) : cnum l = none := by
 cases e : cnum l with
 | none => rfl
 | some n =>
   have := (cnum_lt e).2
   rw [this] at h
   unfold Lib.hasPrefix cWord at h
   simp at h
theorem cnum_dig {l : List UInt8} (h : Lib.hasPrefix l [99] = true) : l = 99 :: Lib.trimPrefix l [99] := by
 unfold Lib.trimPrefix
 rw [h]
 unfold Lib.hasPrefix at h
 cases l with
 | nil => cases h
 | cons c l =>
   simp [List.isPrefixOf] at h
   rw [h]; rfl
theorem cnum_bad {d : List UInt8} (h : ∀ v, Lib.atoiAll d ≠ .ok v) : cnum (99 :: d) = none := by
 cases e : cnum (99 :: d) with
 | none => rfl
 | some n =>
   have := cnum_lt e
   obtain ⟨h1, h2⟩ := this
   unfold cWord at h2
   simp at h2
   have h3 := atoi_itoa (n : Int) ⟨by omega, by omega⟩
   rw [← h2] at h3
   exact absurd h3 (h _)
theorem cnum_ok {d : List UInt8} {v : Int} (h : Lib.atoiAll d = .ok v) : cnum (99 :: d) = if colB v = true ∧ Lib.itoa v = d then some v.toNat else none := by
 unfold colB
 by_cases hv : (decide (0 ≤ v) && decide (v ≤ 99)) = true ∧ Lib.itoa v = d
 · rw [if_pos hv]
   obtain ⟨h1, h2⟩ := hv
   simp at h1
   have := cnum_c v.toNat (by omega)
   unfold cWord at this
   rw [show ((v.toNat : Nat) : Int) = v by omega, h2] at this
   exact this
 · rw [if_neg hv]
   cases e : cnum (99 :: d) with
   | none => rfl
   | some n =>
     exfalso
     obtain ⟨h1, h2⟩ := cnum_lt e
     unfold cWord at h2
     simp at h2
     have h3 := atoi_itoa (n : Int) ⟨by omega, by omega⟩
     rw [← h2, h] at h3
     simp at h3
     subst h3
     exact hv ⟨by simp; omega, h2.symm⟩
def ColS (o : Option Nat) (e : Ending) : Prop := match o with
 | none => e = .panicked (boom 70)
 | some n => e = .returned (.int .i64 (n : Int))
set_option maxHeartbeats 4000000 in
theorem colOf_c (s : ByteArray) (w : World) (hl : s.size ≤ 1000000) (hG : GL w) : Calls Tryz.prog 219 #[.string s] w fun e w' => ColS (cnum s.data.toList) e ∧ Below w.heap.size w w' := by
 obtain ⟨C, hC⟩ : ∃ C, ColS (cnum s.data.toList) = C := ⟨_, rfl⟩
 rw [hC]
 have HC := Lib.hid hC
 have HG := Lib.hid hG
 have HP := Lib.hid (Tryz.strings_CutPrefix s ⟨#[99]⟩ w)
 obtain ⟨d, hd⟩ : ∃ d : ByteArray, (⟨(Lib.trimPrefix s.data.toList (⟨#[99]⟩ : ByteArray).data.toList).toArray⟩ : ByteArray) = d := ⟨_, rfl⟩
 have hds : d.size ≤ 1000000 := by
  rw [← hd]
  show (Lib.trimPrefix _ _).toArray.size ≤ _
  have : s.data.toList.length ≤ 1000000 := by simpa using hl
  simp only [List.size_toArray]
  unfold Lib.trimPrefix
  split <;> simp at this ⊢ <;> omega
 have hdl : d.data.toList = Lib.trimPrefix s.data.toList [99] := by rw [← hd]
 rw [hd] at HP
 have HA := Lib.hid (atoi_c d w hds hG)
 clear hC hG hd
 cases hp : Lib.hasPrefix s.data.toList [99]
 · have hR := cnum_pre hp
   rw [show Lib.hasPrefix s.data.toList (⟨#[99]⟩ : ByteArray).data.toList = false from hp] at HP
   have hC : C (.panicked (boom 70)) := by rw [← HC.out, hR]; rfl
   have HCo := Lib.hid hC
   clear hR hp hC HC hdl hl hds
   go_enter Tryz.func219, Tryz.ntmps219
   go_wp2_with fail
   refine HP.out.mono ?_
   rintro e w1 ⟨rfl, rfl⟩
   clear HP
   go_wp2_with fail
   refine HA.out.mono ?_
   rintro e w2 ⟨hat, hb⟩
   have Hb := Lib.hid hb
   obtain ⟨n, er, rfl⟩ : ∃ n er, e = .returned (.tuple #[.int .i64 n, er]) := by
    unfold AtS at hat
    split at hat
    · exact ⟨_, _, hat⟩
    · obtain ⟨n, p, h⟩ := hat; exact ⟨_, _, h⟩
   clear hat hb HA HG
   go_wp2_with fail
   refine (req_no _).mono ?_
   rintro e w3 ⟨rfl, rfl⟩
   exact ⟨rfl, HCo.out, Hb.out⟩
 · have hs := cnum_dig hp
   rw [← hdl] at hs
   rw [show Lib.hasPrefix s.data.toList (⟨#[99]⟩ : ByteArray).data.toList = true from hp] at HP
   clear hp hl hds hdl
   cases ha : Lib.atoiAll d.data.toList with
   | ok v =>
     rw [ha] at HA
     have hR := cnum_ok ha
     rw [← hs] at hR
     have h6 := Lib.hid (atoi_64 ha)
     cases hv : colB v
     · rw [hv, if_neg (by simp)] at hR
       have hC : C (.panicked (boom 70)) := by rw [← HC.out, hR]; rfl
       have HCo := Lib.hid hC
       have HK := Lib.hid (fun u => isCol_c v u)
       rw [hv] at HK
       clear hR ha hC HC hs hv h6 HG
       go_enter Tryz.func219, Tryz.ntmps219
       go_wp2_with fail
       refine HP.out.mono ?_
       rintro e w1 ⟨rfl, rfl⟩
       clear HP
       go_wp2_with fail
       refine HA.out.mono ?_
       rintro e w2 ⟨rfl, hb⟩
       have Hb := Lib.hid hb
       clear hb HA
       go_wp2_with fail
       refine (HK.out _).mono ?_
       rintro e w3 ⟨rfl, rfl⟩
       go_wp2_with fail
       refine (req_no _).mono ?_
       rintro e w4 ⟨rfl, rfl⟩
       exact ⟨rfl, HCo.out, Hb.out⟩
     · have HK := Lib.hid (fun u => isCol_c v u)
       rw [hv] at HK
       have hv2 := hv
       unfold colB at hv2
       simp at hv2
       by_cases hi : Lib.itoa v = d.data.toList
       · rw [if_pos ⟨hv, hi⟩] at hR
         have hC : C (.returned (.int .i64 v)) := by
          rw [← HC.out, hR]
          show _ = Ending.returned (.int .i64 ((v.toNat : Nat) : Int))
          rw [show ((v.toNat : Nat) : Int) = v by omega]
         have HCo := Lib.hid hC
         have hu : (⟨(Lib.itoa v).toArray⟩ : ByteArray) = d := by rw [hi]
         have Hu := Lib.hid hu
         clear hR ha hC HC hs hv hv2 hi hu
         go_enter Tryz.func219, Tryz.ntmps219
         go_wp2_with fail
         refine HP.out.mono ?_
         rintro e w1 ⟨rfl, rfl⟩
         clear HP
         go_wp2_with fail
         refine HA.out.mono ?_
         rintro e w2 ⟨rfl, hb⟩
         have Hb := Lib.hid hb
         have HG2 := Lib.hid (HG.out.after hb)
         clear hb HA HG
         go_wp2_with fail
         refine (HK.out _).mono ?_
         rintro e w3 ⟨rfl, rfl⟩
         go_wp2_with fail
         refine (Tryz.strconv_Itoa v h6.out.1 h6.out.2 _ HG2.out.gl.tab).mono ?_
         rintro e w4 ⟨rfl, k, os, hw⟩
         have Hb4 := Lib.hid (Hb.out.trans ((show Below w3.heap.size w3 w4 by rw [hw]; exact below_grow _ k os).mono Hb.out.size))
         rw [Hu.out]
         clear hw Hb HG2 Hu HK h6
         go_wp2_with fail
         refine (req_yes _).mono ?_
         rintro e w5 ⟨rfl, rfl⟩
         go_wp2
         go_ret
         exact ⟨HCo.out, Hb4.out⟩
       · rw [if_neg (fun h => hi h.2)] at hR
         have hC : C (.panicked (boom 70)) := by rw [← HC.out, hR]; rfl
         have HCo := Lib.hid hC
         have hu : ((⟨(Lib.itoa v).toArray⟩ : ByteArray).toList == d.toList) = false := by
          rw [ByteArray.toList_eq, ByteArray.toList_eq]
          simpa using hi
         have Hu := Lib.hid hu
         clear hR ha hC HC hs hv hv2 hi hu
         go_enter Tryz.func219, Tryz.ntmps219
         go_wp2_with fail
         refine HP.out.mono ?_
         rintro e w1 ⟨rfl, rfl⟩
         clear HP
         go_wp2_with fail
         refine HA.out.mono ?_
         rintro e w2 ⟨rfl, hb⟩
         have Hb := Lib.hid hb
         have HG2 := Lib.hid (HG.out.after hb)
         clear hb HA HG
         go_wp2_with fail
         refine (HK.out _).mono ?_
         rintro e w3 ⟨rfl, rfl⟩
         go_wp2_with fail
         refine (Tryz.strconv_Itoa v h6.out.1 h6.out.2 _ HG2.out.gl.tab).mono ?_
         rintro e w4 ⟨rfl, k, os, hw⟩
         have Hb4 := Lib.hid (Hb.out.trans ((show Below w3.heap.size w3 w4 by rw [hw]; exact below_grow _ k os).mono Hb.out.size))
         have hu := Hu.out
         generalize (⟨(Lib.itoa v).toArray⟩ : ByteArray) = u at hu ⊢
         clear hw Hb HG2 Hu HK h6
         go_wp2_with fail
         refine (req_no _).mono ?_
         rintro e w5 ⟨rfl, rfl⟩
         exact ⟨rfl, HCo.out, Hb4.out⟩
   | _ =>
     rw [ha] at HA
     have hR := cnum_bad (d := d.data.toList) (fun v h => by rw [ha] at h; cases h)
     rw [← hs] at hR
     have hC : C (.panicked (boom 70)) := by rw [← HC.out, hR]; rfl
     have HCo := Lib.hid hC
     clear hR ha hC HC hs HG
     go_enter Tryz.func219, Tryz.ntmps219
     go_wp2_with fail
     refine HP.out.mono ?_
     rintro e w1 ⟨rfl, rfl⟩
     clear HP
     go_wp2_with fail
     refine HA.out.mono ?_
     rintro e w2 ⟨⟨n, p, rfl⟩, hb⟩
     have Hb := Lib.hid hb
     clear hb HA
     go_wp2_with fail
     refine (req_no _).mono ?_
     rintro e w4 ⟨rfl, rfl⟩
     exact ⟨rfl, HCo.out, Hb.out⟩
theorem run_mapNew0 {P : Program} {mty kt et : TypeId} (w : World) (es : Array MapEntry) (r clk : Nat) (s : ByteArray) (x : Value) (hm : P.underlying mty = some (.map kt et)) (hk : P.underlying kt = some .string) (hb : w.heap[r]? = some (.map es clk)) (h : Instr.findNow .string (.string s) es.toList 0 = some none) :
 (Instr.mapUpdate mty (.map (some r)) (.string s) x).run P w = .ok () { w with heap := w.heap.setIfInBounds r (.map (es.push ⟨.string s, x, clk⟩) (clk + 1)) } := by
 have hc : (Instr.checkKey false 10000 kt (.string s)).run P w = .ok () w := MapKept.run_checkKey (k := .string s) hk (by simp [MapKept.IsKey]) false 9999
 simp [Instr.mapUpdate, run_underlying hm, MapKept.run_getObj_map hb, hc, MapKept.run_findKey hk h, MapKept.run_setObj_map _ hb, Result.andThen]
theorem run_mapNew (w : World) (es : Array MapEntry) (clk : Nat) (s : ByteArray) (x : Value) (h : Instr.findNow .string (.string s) es.toList 0 = some none) :
 (Instr.mapUpdate 194 (.map (some w.heap.size)) (.string s) x).run Tryz.prog (w.alloc (.map es clk)) = .ok () (w.alloc (.map (es.push ⟨.string s, x, clk⟩) (clk + 1))) := by
 have hb : (w.alloc (.map es clk)).heap[w.heap.size]? = some (.map es clk) := by
  show (w.heap.push _)[w.heap.size]? = _
  simp
 rw [run_mapNew0 (w.alloc (.map es clk)) es w.heap.size clk s x Tryz.underlying194 Tryz.underlying9 hb h]
 congr 1
 show ({ w with heap := (w.heap.push _).setIfInBounds w.heap.size _ } : World) = { w with heap := w.heap.push _ }
 congr 1
 apply Array.ext'
 simp
theorem nextW (w : World) (k : Nat) (s : List UInt8) (x : Value) (es : Array MapEntry) (he : stO k = .map es k) (he' : stO (k + 1) = .map (es.push ⟨.string (ba s), x, k⟩) (k + 1)) (h : Instr.findNow .string (.string (ba s)) es.toList 0 = some none) :
 (Instr.mapUpdate 194 (.map (some w.heap.size)) (.string (ba s)) x).run Tryz.prog (w.alloc (stO k)) = .ok () (w.alloc (stO (k + 1))) := by
 rw [he, he']
 exact run_mapNew w es k (ba s) x h
set_option maxHeartbeats 4000000 in
theorem steps_c (w : World) : Calls Tryz.prog 136 #[] w fun e w' => e = .returned (.map (some w.heap.size)) ∧ w' = w.alloc (stO 11) := by
 obtain ⟨O, hO⟩ : ∃ O : Nat → Obj, stO = O := ⟨_, rfl⟩
 have h0 : ∀ u : World, (Instr.makeMap 194 none).run Tryz.prog u = .ok (.map (some u.heap.size)) (u.alloc (O 0)) := fun u => by rw [← hO]; rfl
 have n0 := nextW w 0 w_true (Nd.w ⟨1, 0, tt⟩) _ rfl rfl rfl
 have n1 := nextW w 1 w_false (Nd.w ⟨1, 0, ff⟩) _ rfl rfl rfl
 have n2 := nextW w 2 w_null (Nd.w ⟨1, 0, nl⟩) _ rfl rfl rfl
 have n3 := nextW w 3 s_pl (Nd.w ⟨2, 0, nl⟩) _ rfl rfl rfl
 have n4 := nextW w 4 s_mi (Nd.w ⟨3, 0, nl⟩) _ rfl rfl rfl
 have n5 := nextW w 5 s_st (Nd.w ⟨4, 0, nl⟩) _ rfl rfl rfl
 have n6 := nextW w 6 s_eq (Nd.w ⟨5, 0, nl⟩) _ rfl rfl rfl
 have n7 := nextW w 7 s_lt (Nd.w ⟨6, 0, nl⟩) _ rfl rfl rfl
 have n8 := nextW w 8 w_and (Nd.w ⟨7, 0, nl⟩) _ rfl rfl rfl
 have n9 := nextW w 9 w_or (Nd.w ⟨8, 0, nl⟩) _ rfl rfl rfl
 have n10 := nextW w 10 w_not (Nd.w ⟨9, 0, nl⟩) _ rfl rfl rfl
 rw [hO] at n0 n1 n2 n3 n4 n5 n6 n7 n8 n9 n10 ⊢
 clear hO
 simp only [Nd.w, ba, w_true, w_false, w_null, s_pl, s_mi, s_st, s_eq, s_lt, w_and, w_or, w_not, tt, ff, nl] at n0 n1 n2 n3 n4 n5 n6 n7 n8 n9 n10
 go_enter Tryz.func136, Tryz.ntmps136
 go_wp2
 go_ret
 exact ⟨rfl, rfl⟩
def stFL : List (List UInt8 × Nd) → ByteArray → Option Nd
 | [], _ => none
 | p :: r, s => if s == ba p.1 then some p.2 else stFL r s
def stF (s : ByteArray) : Option Nd := stFL stW s
theorem find_ents (s : ByteArray) : ∀ (ws : List (List UInt8 × Nd)) (i j : Nat), ∃ k, Instr.findNow .string (.string s) (entsF i ws) j = some ((stFL ws s).map fun x => (k, x.w))
 | [], _, j => ⟨j, rfl⟩
 | p :: r, i, j => by
   cases h : (s == ba p.1)
   · obtain ⟨k, hk⟩ := find_ents s r (i + 1) (j + 1)
     refine ⟨k, ?_⟩
     rw [entsF, stFL, h, Instr.findNow]
     simp only [Instr.sameNow, h]
     exact hk
   · refine ⟨j, ?_⟩
     rw [entsF, stFL, h, Instr.findNow]
     simp only [Instr.sameNow, h]
     rfl
theorem run_look0 {P : Program} {mty kt et : TypeId} (w : World) (es : Array MapEntry) (r clk : Nat) (s : ByteArray) (hm : P.underlying mty = some (.map kt et)) (hk : P.underlying kt = some .string) (hb : w.heap[r]? = some (.map es clk)) (o : Option (Nat × Value)) (z : Value) (hz : (zeroValue et).run P w = .ok z w) (h : Instr.findNow .string (.string s) es.toList 0 = some o) :
 (Instr.lookup mty (.map (some r)) (.string s) true).run P w = .ok (.tuple #[(o.map (·.2)).getD z, .bool o.isSome]) w := by
 have hc : ∀ em, (Instr.checkKey em 10000 kt (.string s)).run P w = .ok () w := fun em => MapKept.run_checkKey (k := .string s) hk (by simp [MapKept.IsKey]) em 9999
 cases o with
 | none => simp [Instr.lookup, run_underlying hm, MapKept.run_getObj_map hb, hc, MapKept.run_findKey hk h, hz, Result.andThen]
 | some p => simp [Instr.lookup, run_underlying hm, MapKept.run_getObj_map hb, hc, MapKept.run_findKey hk h, Result.andThen]
def nd0 : Nd := ⟨0, 0, nl⟩
theorem run_look (w : World) (m : Nat) (s : ByteArray) (hb : w.heap[m]? = some (stO 11)) :
 (Instr.lookup 194 (.map (some m)) (.string s) true).run Tryz.prog w = .ok (.tuple #[((stF s).getD nd0).w, .bool (stF s).isSome]) w := by
 obtain ⟨k, hk⟩ := find_ents s stW 0 0
 have := run_look0 w (entsF 0 (stW.take 11)).toArray m 11 s Tryz.underlying194 Tryz.underlying9 hb _ nd0.w (by kernel_rfl) hk
 rw [this]
 unfold stF
 cases stFL stW s <;> rfl
theorem sign_cnum {l : List UInt8} (h : signB l = true) : cnum l = none := by
 cases e : cnum l with
 | none => rfl
 | some n =>
   exfalso
   have := (cnum_lt e).2
   subst this
   unfold cWord at h
   unfold signB at h
   revert h
   cases Lib.itoa (n : Int) with
   | nil => decide
   | cons a r => simp
def stepN (o : Option Nd) (t : Tk) (r : List Tk) : Option (Nd × List Tk) := match o with
 | some x => some (x, r)
 | none => (cnum t.t.data.toList).map fun (n : Nat) => ((⟨0, (n : Int), nl⟩ : Nd), r)
def stepM (t : Tk) (r : List Tk) : Option (Nd × List Tk) := if t.k = 1 then some (⟨1, 0, t.v⟩, r) else stepN (stF t.t) t r
def stepL (l : List Tk) : Option (Nd × List Tk) :=
 if seesB [w_null, s_qm] l then some (⟨10, 0, nl⟩, l.drop 2) else match l with
  | [] => none
  | t :: r => stepM t r
theorem stF_l (s : ByteArray) : stF s = if s.data.toList == w_true then some ⟨1, 0, tt⟩ else if s.data.toList == w_false then some ⟨1, 0, ff⟩ else if s.data.toList == w_null then some ⟨1, 0, nl⟩ else if s.data.toList == s_pl then some ⟨2, 0, nl⟩ else if s.data.toList == s_mi then some ⟨3, 0, nl⟩ else if s.data.toList == s_st then some ⟨4, 0, nl⟩ else if s.data.toList == s_eq then some ⟨5, 0, nl⟩ else if s.data.toList == s_lt then some ⟨6, 0, nl⟩ else if s.data.toList == w_and then some ⟨7, 0, nl⟩ else if s.data.toList == w_or then some ⟨8, 0, nl⟩ else if s.data.toList == w_not then some ⟨9, 0, nl⟩ else none := by
 have e : ∀ l : List UInt8, (s == ba l) = (s.data.toList == l) := fun l => by
  rw [ba_beq, Bool.eq_iff_iff, decide_eq_true_eq, MapKept.bytes_beq]; exact eq_comm
 simp only [stF, stW, stFL, e]
theorem stepL_eq {l : List Tk} (hm : ∀ t ∈ l, mayT t = true) : stepL l = stepP l := by
 cases l with
 | nil => rfl
 | cons t r =>
   have ht := hm t (by simp)
   have hr : ∀ t ∈ r, mayT t = true := fun x hx => hm x (List.mem_cons_of_mem _ hx)
   have hq := sees_take hr (s := s_qm) (by decide)
   unfold stepL
   simp only [stepM, stepN]
   rw [seesB]
   by_cases hk : t.k = 1
   · have hw : ∀ s, isW s t = false := fun s => by unfold isW; rw [hk]; rfl
     have h1 : (t.t.data.toList == w_null) = false := by rw [← may_isW ht (by decide)]; exact hw _
     have ho : ∀ ws i, oneF ws i t = none := fun ws => by
      induction ws with
      | nil => exact fun _ => rfl
      | cons s ws ih => exact fun i => by rw [oneF, hw, if_neg (by decide)]; exact ih _
     rw [h1, Bool.false_and]
     simp only [Bool.false_eq_true, if_false, if_pos hk]
     rw [stepP, hw, hw, hw, ho]
     simp [hk]
   · have hw : ∀ s, isW s t = (t.t.data.toList == s) := fun s => by
      unfold isW
      have : (t.k != 1) = true := by simpa using hk
      rw [this, Bool.true_and]
     have hs : t.k ≠ 0 → cnum t.t.data.toList = none := fun h0 => by
      unfold mayT at ht
      by_cases h2 : t.k = 2
      · simp [h2] at ht
        exact sign_cnum ht.1
      · simp [hk, h0, h2] at ht
     rw [← hq.1, stepP]
     simp only [hw, oneF, opWs, stF_l]
     have e1 : (t.k == 1) = false := by simpa using hk
     rw [e1]
     obtain ⟨l, hl⟩ : ∃ l, t.t.data.toList = l := ⟨_, rfl⟩
     rw [hl] at hs ⊢
     by_cases a1 : l = w_null
     · subst a1
       cases h : (takeP s_qm r).1
       · simp [hk]; rfl
       · rw [hq.1] at h
         have h2 := hq.2
         rw [h] at h2
         simp at h2
         simp [h2]
     have b1 : (l == w_null) = false := by simpa using a1
     by_cases a2 : l = w_true
     · subst a2; simp [hk]; rfl
     have b2 : (l == w_true) = false := by simpa using a2
     by_cases a3 : l = w_false
     · subst a3; simp [hk]; rfl
     have b3 : (l == w_false) = false := by simpa using a3
     rw [b1, b2, b3]
     simp only [Bool.false_and, Bool.false_eq_true, if_false, if_neg hk]
     cases g0 : (l == s_pl)
     case true => rfl
     cases g1 : (l == s_mi)
     case true => rfl
     cases g2 : (l == s_st)
     case true => rfl
     cases g3 : (l == s_eq)
     case true => rfl
     cases g4 : (l == s_lt)
     case true => rfl
     cases g5 : (l == w_and)
     case true => rfl
     cases g6 : (l == w_or)
     case true => rfl
     cases g7 : (l == w_not)
     case true => rfl
     simp only [Bool.false_eq_true, if_false]
     by_cases c0 : t.k = 0
     · have e0 : (t.k == 0) = true := by simpa using c0
       rw [e0]; rfl
     · rw [hs c0]
       have e0 : (t.k == 0) = false := by simpa using c0
       rw [e0]; rfl
theorem stepL_miss {t : Tk} {r : List Tk} (h : seesB [w_null, s_qm] (t :: r) = false) : stepL (t :: r) = stepM t r := by unfold stepL; rw [h]; rfl
theorem stepL_hit {l : List Tk} (h : seesB [w_null, s_qm] l = true) : stepL l = some (⟨10, 0, nl⟩, l.drop 2) := by unfold stepL; rw [h]; rfl
end Go.Proofs.YtamekagminbejaaGreatDoor
