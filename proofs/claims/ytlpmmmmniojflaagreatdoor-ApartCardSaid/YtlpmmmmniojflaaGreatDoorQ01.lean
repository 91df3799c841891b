/- Texts put together. -/
import Derived.Shelf.Strings.Builder1
import Derived.Shelf.Strings.Trim
import Derived.Shelf.Small.Utf8
import Derived.Shelf.Small.Strs
import Derived.Shelf.Strconv.Atoi
import Derived.Shelf.Strconv.Itoa0
import Derived.Shelf.Strconv.Itoa1
import Derived.Shelf.LaysM
import Derived.Shelf.Strconv.Itoa2
import Derived.Shelf.Strconv.Itoa3
import Derived.Shelf.Strconv.ParseIntEmpty
import Derived.Shelf.Strconv.Clone
import Derived.Shelf.Strconv.SyntaxError
import Derived.Shelf.LaysC
import Derived.Shelf.Strconv.ToError
import Derived.Shelf.Strconv.Lower
import Derived.Shelf.Strconv.ParseUint10
import Derived.Shelf.Strconv.ParseUint10Empty
import Derived.Shelf.Strconv.ParseUint10Any
import Derived.Shelf.Strconv.ParseInt10
import Derived.Shelf.Strconv.RangeError
import Derived.Shelf.Strconv.ToErrorRange
import Derived.Shelf.Strconv.ParseUintEmpty
import Derived.Shelf.Strconv.ParseUint10b64
import Derived.Shelf.Strconv.ParseUint10b32
import Derived.Shelf.Strconv.ParseUint10b16
import Derived.Shelf.Strconv.ParseUint10b8
import Derived.Shelf.Strconv.ParseUint10At
import Derived.Shelf.Strconv.ParseInt10At64
import Derived.Shelf.Strconv.ParseInt10At32
import Derived.Shelf.Strconv.ParseInt10At16
import Derived.Shelf.Strconv.ParseInt10At8
import Derived.Shelf.Strconv.ParseInt10All
import Derived.Shelf.Strconv.ParseIntPublic10
import Derived.Shelf.Strconv.ErrVarParseInt
import Derived.Shelf.Strings.Search1
import Derived.Shelf.Strings.Runes
import Derived.Shelf.Strings.AsciiSet
import Derived.Shelf.Unicode.DecodeSlow
import Derived.Test.YtlpmmmmniojflaaGreatDoorProg
import Derived.Test.YtlpmmmmniojflaaGreatDoorQ00
import Derived.Lib.AtoiErrMem
/- Contracts of Go library functions, laid at this program (by the guide's command, in plain words; what is not used is left out). -/
namespace Go.Proofs
open Go.Shelf
def Tryz.lays169_ren : Go.Shelf.Ren := ⟨fun | 169 => 55 | n => n, fun | 70 => 121 | 9 => 9 | 0 => 0 | 72 => 123 | 37 => 118 | 127 => 163 | 3 => 3 | 5 => 5 | n => n, fun | n => n⟩
theorem Tryz.lays169 : Go.Proofs.Lays.n169 Tryz.prog Tryz.lays169_ren := {
  mixed := by kernel_rfl
  f169 := Tryz.func55.trans (congrArg some (by kernel_rfl))
  t0 := Tryz.underlying0
  a0 := Tryz.isAgg0
  z0 := Tryz.sizeOf0
  v0 := Tryz.zeroValue0
  t3 := Tryz.underlying3
  a3 := Tryz.isAgg3
  z3 := Tryz.sizeOf3
  v3 := Tryz.zeroValue3
  t9 := Tryz.underlying9
  a9 := Tryz.isAgg9
  z9 := Tryz.sizeOf9
  v9 := Tryz.zeroValue9
  t37 := Tryz.underlying118
  a37 := Tryz.isAgg118
  z37 := Tryz.sizeOf118
  v37 := Tryz.zeroValue118
  t70 := Tryz.underlying121
  a70 := Tryz.isAgg121
  z70 := Tryz.sizeOf121
  v70 := Tryz.zeroValue121
  t72 := Tryz.underlying123
  a72 := Tryz.isAgg123
  z72 := Tryz.sizeOf123
  v72 := Tryz.zeroValue123
  t127 := Tryz.underlying163
  a127 := Tryz.isAgg163
  z127 := Tryz.sizeOf163
  v127 := Tryz.zeroValue163 }
theorem Tryz.Builder_Extra_169 : Builder.Extra Tryz.prog Tryz.lays169_ren := {
  sizeBuilder := by kernel_rfl
  liesBuilder := by kernel_rfl
  t5 := Tryz.underlying5
  a5 := Tryz.isAgg5
  z5 := Tryz.sizeOf5
  v5 := Tryz.zeroValue5
  infoByte := by kernel_rfl
  cellsByte := by kernel_rfl
  sizeByte := by kernel_rfl
  neB5 := by decide }
open Go.RowKit in
theorem Tryz.Builder_String_any (B b : Nat) (l : List UInt8) (w : World) (h : Lib.IsBuilder 123 5 B b (Lib.byteCells l) w) (hBw : B ≤ w.heap.size) :
    Calls Tryz.prog 55 #[.pointer (some ⟨b, 0, none⟩)] w fun e w' => e = .returned (.string ⟨l.toArray⟩) ∧ Below B w w' := Any.Builder_String_any Tryz.lays169 Tryz.Builder_Extra_169 B b l w h hBw
def Tryz.lays161_ren : Go.Shelf.Ren := ⟨fun | 161 => 126 | 231 => 158 | 227 => 159 | 233 => 160 | 235 => 161 | 228 => 189 | 197 => 190 | 151 => 191 | 260 => 213 | 152 => 214 | 137 => 187 | 119 => 229 | 224 => 230 | 225 => 231 | 217 => 208 | 266 => 228 | n => n, fun | 9 => 9 | 4 => 4 | 3 => 3 | 5 => 5 | 117 => 255 | 116 => 254 | 0 => 0 | 124 => 258 | 105 => 288 | 21 => 21 | 119 => 318 | 46 => 241 | 139 => 321 | 138 => 320 | n => n, fun | 3 => 5 | 4 => 6 | n => n⟩
theorem Tryz.lays161 : Go.Proofs.Lays.n161 Tryz.prog Tryz.lays161_ren := {
  mixed := by kernel_rfl
  f119 := Tryz.func229.trans (congrArg some (by kernel_rfl))
  f137 := Tryz.func187.trans (congrArg some (by kernel_rfl))
  f151 := Tryz.func191.trans (congrArg some (by kernel_rfl))
  f152 := Tryz.func214.trans (congrArg some (by kernel_rfl))
  f161 := Tryz.func126.trans (congrArg some (by kernel_rfl))
  f197 := Tryz.func190.trans (congrArg some (by kernel_rfl))
  f217 := Tryz.func208.trans (congrArg some (by kernel_rfl))
  f224 := Tryz.func230.trans (congrArg some (by kernel_rfl))
  f225 := Tryz.func231.trans (congrArg some (by kernel_rfl))
  f227 := Tryz.func159.trans (congrArg some (by kernel_rfl))
  f228 := Tryz.func189.trans (congrArg some (by kernel_rfl))
  f231 := Tryz.func158.trans (congrArg some (by kernel_rfl))
  f233 := Tryz.func160.trans (congrArg some (by kernel_rfl))
  f235 := Tryz.func161.trans (congrArg some (by kernel_rfl))
  f260 := Tryz.func213.trans (congrArg some (by kernel_rfl))
  f266 := Tryz.func228.trans (congrArg some (by kernel_rfl))
  t0 := Tryz.underlying0
  a0 := Tryz.isAgg0
  z0 := Tryz.sizeOf0
  v0 := Tryz.zeroValue0
  t3 := Tryz.underlying3
  a3 := Tryz.isAgg3
  z3 := Tryz.sizeOf3
  v3 := Tryz.zeroValue3
  t4 := Tryz.underlying4
  a4 := Tryz.isAgg4
  z4 := Tryz.sizeOf4
  v4 := Tryz.zeroValue4
  t5 := Tryz.underlying5
  a5 := Tryz.isAgg5
  z5 := Tryz.sizeOf5
  v5 := Tryz.zeroValue5
  t9 := Tryz.underlying9
  a9 := Tryz.isAgg9
  z9 := Tryz.sizeOf9
  v9 := Tryz.zeroValue9
  t21 := Tryz.underlying21
  a21 := Tryz.isAgg21
  z21 := Tryz.sizeOf21
  v21 := Tryz.zeroValue21
  t46 := Tryz.underlying241
  a46 := Tryz.isAgg241
  z46 := Tryz.sizeOf241
  v46 := Tryz.zeroValue241
  t105 := Tryz.underlying288
  a105 := Tryz.isAgg288
  z105 := Tryz.sizeOf288
  v105 := Tryz.zeroValue288
  t116 := Tryz.underlying254
  a116 := Tryz.isAgg254
  z116 := Tryz.sizeOf254
  t117 := Tryz.underlying255
  a117 := Tryz.isAgg255
  z117 := Tryz.sizeOf255
  v117 := Tryz.zeroValue255
  t119 := Tryz.underlying318
  a119 := Tryz.isAgg318
  z119 := Tryz.sizeOf318
  t124 := Tryz.underlying258
  a124 := Tryz.isAgg258
  z124 := Tryz.sizeOf258
  v124 := Tryz.zeroValue258
  t138 := Tryz.underlying320
  a138 := Tryz.isAgg320
  z138 := Tryz.sizeOf320
  v138 := Tryz.zeroValue320
  t139 := Tryz.underlying321
  a139 := Tryz.isAgg321
  z139 := Tryz.sizeOf321
  v139 := Tryz.zeroValue321
  g3 := by kernel_rfl
  g4 := by kernel_rfl }
open Go.RowKit in
theorem Tryz.strings_TrimLeft_one (s : ByteArray) (c : UInt8) (hc : c.toNat < 128) (w : World) :
    Calls Tryz.prog 126 #[.string s, .string ⟨#[c]⟩] w fun e w' => e = .returned (.string ⟨(Lib.trimLeftB s.data.toList c).toArray⟩) ∧ w' = w := Any.strings_TrimLeft_one Tryz.lays161 s c hc w
def Tryz.lays137_ren : Go.Shelf.Ren := ⟨fun | 137 => 187 | 217 => 208 | 266 => 228 | n => n, fun | 9 => 9 | 5 => 5 | 3 => 3 | n => n, fun | n => n⟩
theorem Tryz.lays137 : Go.Proofs.Lays.n137 Tryz.prog Tryz.lays137_ren := {
  mixed := by kernel_rfl
  f137 := Tryz.func187.trans (congrArg some (by kernel_rfl))
  f217 := Tryz.func208.trans (congrArg some (by kernel_rfl))
  f266 := Tryz.func228.trans (congrArg some (by kernel_rfl))
  t3 := Tryz.underlying3
  a3 := Tryz.isAgg3
  z3 := Tryz.sizeOf3
  v3 := Tryz.zeroValue3
  t5 := Tryz.underlying5
  a5 := Tryz.isAgg5
  z5 := Tryz.sizeOf5
  v5 := Tryz.zeroValue5
  t9 := Tryz.underlying9
  a9 := Tryz.isAgg9
  z9 := Tryz.sizeOf9
  v9 := Tryz.zeroValue9 }
open Go.RowKit in
theorem Tryz.strings_IndexByte (s : ByteArray) (c : Int) (w : World) :
    Calls Tryz.prog 187 #[.string s, .int .u8 c] w fun e w' => e = .returned (.int .i64 (Lib.indexByte s.data.toList c.toNat.toUInt8)) ∧ w' = w := Any.strings_IndexByte Tryz.lays137 s c w
def Tryz.laysM171_ren : Go.Shelf.Ren := ⟨fun | 171 => 49 | 243 => 75 | 246 => 81 | 283 => 109 | 284 => 110 | 285 => 111 | 286 => 112 | 129 => 137 | 317 => 136 | 318 => 138 | 319 => 139 | 320 => 140 | 337 => 168 | 338 => 169 | n => n, fun | 3 => 3 | 9 => 9 | 2 => 2 | 4 => 4 | 171 => 208 | 0 => 0 | 53 => 209 | 37 => 118 | 5 => 5 | 173 => 212 | 212 => 238 | 51 => 239 | 20 => 20 | 213 => 240 | 46 => 241 | 232 => 296 | 233 => 297 | n => n, fun | 17 => 0 | 18 => 3 | 19 => 4 | n => n⟩
theorem Tryz.laysM171 : Go.Proofs.LaysM.n171 Tryz.prog Tryz.laysM171_ren := {
  mixed := by kernel_rfl
  f129 := Tryz.func137.trans (congrArg some (by kernel_rfl))
  f171 := Tryz.func49.trans (congrArg some (by kernel_rfl))
  f243 := Tryz.func75.trans (congrArg some (by kernel_rfl))
  f246 := Tryz.func81.trans (congrArg some (by kernel_rfl))
  f283 := Tryz.func109.trans (congrArg some (by kernel_rfl))
  f284 := Tryz.func110.trans (congrArg some (by kernel_rfl))
  f285 := Tryz.func111.trans (congrArg some (by kernel_rfl))
  f286 := Tryz.func112.trans (congrArg some (by kernel_rfl))
  f317 := Tryz.func136.trans (congrArg some (by kernel_rfl))
  f318 := Tryz.func138.trans (congrArg some (by kernel_rfl))
  f319 := Tryz.func139.trans (congrArg some (by kernel_rfl))
  f320 := Tryz.func140.trans (congrArg some (by kernel_rfl))
  f337 := Tryz.func168.trans (congrArg some (by kernel_rfl))
  f338 := Tryz.func169.trans (congrArg some (by kernel_rfl))
  t0 := Tryz.underlying0
  a0 := Tryz.isAgg0
  z0 := Tryz.sizeOf0
  v0 := Tryz.zeroValue0
  t2 := Tryz.underlying2
  a2 := Tryz.isAgg2
  z2 := Tryz.sizeOf2
  v2 := Tryz.zeroValue2
  t3 := Tryz.underlying3
  a3 := Tryz.isAgg3
  z3 := Tryz.sizeOf3
  v3 := Tryz.zeroValue3
  t4 := Tryz.underlying4
  a4 := Tryz.isAgg4
  z4 := Tryz.sizeOf4
  v4 := Tryz.zeroValue4
  t5 := Tryz.underlying5
  a5 := Tryz.isAgg5
  z5 := Tryz.sizeOf5
  v5 := Tryz.zeroValue5
  t9 := Tryz.underlying9
  a9 := Tryz.isAgg9
  z9 := Tryz.sizeOf9
  v9 := Tryz.zeroValue9
  t20 := Tryz.underlying20
  a20 := Tryz.isAgg20
  z20 := Tryz.sizeOf20
  v20 := Tryz.zeroValue20
  t37 := Tryz.underlying118
  a37 := Tryz.isAgg118
  z37 := Tryz.sizeOf118
  v37 := Tryz.zeroValue118
  t46 := Tryz.underlying241
  a46 := Tryz.isAgg241
  z46 := Tryz.sizeOf241
  v46 := Tryz.zeroValue241
  t51 := Tryz.underlying239
  a51 := Tryz.isAgg239
  z51 := Tryz.sizeOf239
  v51 := Tryz.zeroValue239
  t53 := Tryz.underlying209
  a53 := Tryz.isAgg209
  z53 := Tryz.sizeOf209
  v53 := Tryz.zeroValue209
  t171 := Tryz.underlying208
  a171 := Tryz.isAgg208
  z171 := Tryz.sizeOf208
  v171 := Tryz.zeroValue208
  t173 := Tryz.underlying212
  a173 := Tryz.isAgg212
  z173 := Tryz.sizeOf212
  v173 := Tryz.zeroValue212
  t212 := Tryz.underlying238
  a212 := Tryz.isAgg238
  z212 := Tryz.sizeOf238
  v212 := Tryz.zeroValue238
  t213 := Tryz.underlying240
  a213 := Tryz.isAgg240
  z213 := Tryz.sizeOf240
  t232 := Tryz.underlying296
  a232 := Tryz.isAgg296
  z232 := Tryz.sizeOf296
  v232 := Tryz.zeroValue296
  t233 := Tryz.underlying297
  a233 := Tryz.isAgg297
  z233 := Tryz.sizeOf297
  v233 := Tryz.zeroValue297
  g17 := by kernel_rfl
  g18 := by kernel_rfl
  g19 := by kernel_rfl
  i0 := by kernel_rfl
  i2 := by kernel_rfl
  i3 := by kernel_rfl
  i4 := by kernel_rfl
  i5 := by kernel_rfl
  i9 := by kernel_rfl
  i20 := by kernel_rfl
  i37 := by kernel_rfl
  i46 := by kernel_rfl
  i51 := by kernel_rfl
  i53 := by kernel_rfl
  i171 := by kernel_rfl
  i173 := by kernel_rfl
  i212 := by kernel_rfl
  i232 := by kernel_rfl
  i233 := by kernel_rfl
  m17 := by kernel_rfl
  m18 := by kernel_rfl
  m19 := by kernel_rfl }
open Go.RowKit Go.Sort Go.Lib in
theorem Tryz.strconv_Itoa (n : Int) (h0 : -9223372036854775808 ≤ n) (h1 : n ≤ 9223372036854775807) (w : World) (htab : Lib.TabIs Tryz.prog w "internal/strconv.uint64pow10" .u64 Lib.pow10Tab) :
    Calls Tryz.prog 49 #[.int .i64 n] w fun e w' => e = .returned (.string ⟨(Lib.itoa n).toArray⟩) ∧ ∃ k os, w' = grow (w.drewN k) os := Any.strconv_Itoa Tryz.laysM171 n h0 h1 w htab
def Tryz.laysC174_ren : Go.Shelf.Ren := ⟨fun | 174 => 108 | 247 => 134 | 245 => 135 | 287 => 163 | 279 => 164 | 280 => 165 | 281 => 166 | 282 => 167 | 321 => 194 | 322 => 195 | 316 => 196 | 171 => 49 | 205 => 197 | 243 => 75 | 246 => 81 | 283 => 109 | 284 => 110 | 285 => 111 | 286 => 112 | 129 => 137 | 317 => 136 | 318 => 138 | 319 => 139 | 320 => 140 | 337 => 168 | 338 => 169 | n => n, fun | 9 => 9 | 3 => 3 | 2 => 2 | 75 => 125 | 85 => 206 | 4 => 4 | 167 => 266 | 5 => 5 | 53 => 209 | 175 => 267 | 46 => 241 | 168 => 269 | 37 => 118 | 0 => 0 | 210 => 294 | 21 => 21 | 127 => 163 | 145 => 310 | 143 => 308 | 171 => 208 | 173 => 212 | 212 => 238 | 51 => 239 | 20 => 20 | 213 => 240 | 232 => 296 | 233 => 297 | 80 => 59 | n => n, fun | 15 => 1 | 16 => 2 | 17 => 0 | 18 => 3 | 19 => 4 | n => n⟩
theorem Tryz.laysC174 : Go.Proofs.LaysC.n174 Tryz.prog Tryz.laysC174_ren := {
  mixed := by kernel_rfl
  f129 := Tryz.func137.trans (congrArg some (by kernel_rfl))
  f171 := Tryz.func49.trans (congrArg some (by kernel_rfl))
  f174 := Tryz.func108.trans (congrArg some (by kernel_rfl))
  f205 := Tryz.func197.trans (congrArg some (by kernel_rfl))
  f243 := Tryz.func75.trans (congrArg some (by kernel_rfl))
  f245 := Tryz.func135.trans (congrArg some (by kernel_rfl))
  f246 := Tryz.func81.trans (congrArg some (by kernel_rfl))
  f247 := Tryz.func134.trans (congrArg some (by kernel_rfl))
  f279 := Tryz.func164.trans (congrArg some (by kernel_rfl))
  f280 := Tryz.func165.trans (congrArg some (by kernel_rfl))
  f281 := Tryz.func166.trans (congrArg some (by kernel_rfl))
  f282 := Tryz.func167.trans (congrArg some (by kernel_rfl))
  f283 := Tryz.func109.trans (congrArg some (by kernel_rfl))
  f284 := Tryz.func110.trans (congrArg some (by kernel_rfl))
  f285 := Tryz.func111.trans (congrArg some (by kernel_rfl))
  f286 := Tryz.func112.trans (congrArg some (by kernel_rfl))
  f287 := Tryz.func163.trans (congrArg some (by kernel_rfl))
  f316 := Tryz.func196.trans (congrArg some (by kernel_rfl))
  f317 := Tryz.func136.trans (congrArg some (by kernel_rfl))
  f318 := Tryz.func138.trans (congrArg some (by kernel_rfl))
  f319 := Tryz.func139.trans (congrArg some (by kernel_rfl))
  f320 := Tryz.func140.trans (congrArg some (by kernel_rfl))
  f321 := Tryz.func194.trans (congrArg some (by kernel_rfl))
  f322 := Tryz.func195.trans (congrArg some (by kernel_rfl))
  f337 := Tryz.func168.trans (congrArg some (by kernel_rfl))
  f338 := Tryz.func169.trans (congrArg some (by kernel_rfl))
  t0 := Tryz.underlying0
  a0 := Tryz.isAgg0
  z0 := Tryz.sizeOf0
  v0 := Tryz.zeroValue0
  t2 := Tryz.underlying2
  a2 := Tryz.isAgg2
  z2 := Tryz.sizeOf2
  v2 := Tryz.zeroValue2
  t3 := Tryz.underlying3
  a3 := Tryz.isAgg3
  z3 := Tryz.sizeOf3
  v3 := Tryz.zeroValue3
  t4 := Tryz.underlying4
  a4 := Tryz.isAgg4
  z4 := Tryz.sizeOf4
  v4 := Tryz.zeroValue4
  t5 := Tryz.underlying5
  a5 := Tryz.isAgg5
  z5 := Tryz.sizeOf5
  v5 := Tryz.zeroValue5
  t9 := Tryz.underlying9
  a9 := Tryz.isAgg9
  z9 := Tryz.sizeOf9
  v9 := Tryz.zeroValue9
  t20 := Tryz.underlying20
  a20 := Tryz.isAgg20
  z20 := Tryz.sizeOf20
  v20 := Tryz.zeroValue20
  t21 := Tryz.underlying21
  a21 := Tryz.isAgg21
  z21 := Tryz.sizeOf21
  v21 := Tryz.zeroValue21
  t37 := Tryz.underlying118
  a37 := Tryz.isAgg118
  z37 := Tryz.sizeOf118
  v37 := Tryz.zeroValue118
  t46 := Tryz.underlying241
  a46 := Tryz.isAgg241
  z46 := Tryz.sizeOf241
  v46 := Tryz.zeroValue241
  t51 := Tryz.underlying239
  a51 := Tryz.isAgg239
  z51 := Tryz.sizeOf239
  v51 := Tryz.zeroValue239
  t53 := Tryz.underlying209
  a53 := Tryz.isAgg209
  z53 := Tryz.sizeOf209
  v53 := Tryz.zeroValue209
  t75 := Tryz.underlying125
  a75 := Tryz.isAgg125
  z75 := Tryz.sizeOf125
  v75 := Tryz.zeroValue125
  t85 := Tryz.underlying206
  a85 := Tryz.isAgg206
  z85 := Tryz.sizeOf206
  v85 := Tryz.zeroValue206
  t127 := Tryz.underlying163
  a127 := Tryz.isAgg163
  z127 := Tryz.sizeOf163
  v127 := Tryz.zeroValue163
  t143 := Tryz.underlying308
  a143 := Tryz.isAgg308
  z143 := Tryz.sizeOf308
  v143 := Tryz.zeroValue308
  t145 := Tryz.underlying310
  a145 := Tryz.isAgg310
  z145 := Tryz.sizeOf310
  v145 := Tryz.zeroValue310
  t167 := Tryz.underlying266
  a167 := Tryz.isAgg266
  z167 := Tryz.sizeOf266
  v167 := Tryz.zeroValue266
  t168 := Tryz.underlying269
  a168 := Tryz.isAgg269
  z168 := Tryz.sizeOf269
  v168 := Tryz.zeroValue269
  t171 := Tryz.underlying208
  a171 := Tryz.isAgg208
  z171 := Tryz.sizeOf208
  v171 := Tryz.zeroValue208
  t173 := Tryz.underlying212
  a173 := Tryz.isAgg212
  z173 := Tryz.sizeOf212
  v173 := Tryz.zeroValue212
  t175 := Tryz.underlying267
  a175 := Tryz.isAgg267
  z175 := Tryz.sizeOf267
  v175 := Tryz.zeroValue267
  t210 := Tryz.underlying294
  a210 := Tryz.isAgg294
  z210 := Tryz.sizeOf294
  v210 := Tryz.zeroValue294
  t212 := Tryz.underlying238
  a212 := Tryz.isAgg238
  z212 := Tryz.sizeOf238
  v212 := Tryz.zeroValue238
  t213 := Tryz.underlying240
  a213 := Tryz.isAgg240
  z213 := Tryz.sizeOf240
  t232 := Tryz.underlying296
  a232 := Tryz.isAgg296
  z232 := Tryz.sizeOf296
  v232 := Tryz.zeroValue296
  t233 := Tryz.underlying297
  a233 := Tryz.isAgg297
  z233 := Tryz.sizeOf297
  v233 := Tryz.zeroValue297
  g15 := by kernel_rfl
  g16 := by kernel_rfl
  g17 := by kernel_rfl
  g18 := by kernel_rfl
  g19 := by kernel_rfl
  t80 := Tryz.underlying59
  a80 := Tryz.isAgg59
  z80 := Tryz.sizeOf59
  v80 := Tryz.zeroValue59
  i0 := by kernel_rfl
  i2 := by kernel_rfl
  i3 := by kernel_rfl
  i4 := by kernel_rfl
  i5 := by kernel_rfl
  i9 := by kernel_rfl
  i20 := by kernel_rfl
  i21 := by kernel_rfl
  i37 := by kernel_rfl
  i46 := by kernel_rfl
  i51 := by kernel_rfl
  i53 := by kernel_rfl
  i75 := by kernel_rfl
  i80 := by kernel_rfl
  i85 := by kernel_rfl
  i127 := by kernel_rfl
  i143 := by kernel_rfl
  i145 := by kernel_rfl
  i167 := by kernel_rfl
  i168 := by kernel_rfl
  i171 := by kernel_rfl
  i173 := by kernel_rfl
  i175 := by kernel_rfl
  i210 := by kernel_rfl
  i212 := by kernel_rfl
  i232 := by kernel_rfl
  i233 := by kernel_rfl
  m15 := by kernel_rfl
  m16 := by kernel_rfl
  m17 := by kernel_rfl
  m18 := by kernel_rfl
  m19 := by kernel_rfl
  c0 := by kernel_rfl
  c2 := by kernel_rfl
  c3 := by kernel_rfl
  c4 := by kernel_rfl
  c5 := by kernel_rfl
  c9 := by kernel_rfl
  c20 := by kernel_rfl
  c21 := by kernel_rfl
  c37 := by kernel_rfl
  c46 := by kernel_rfl
  c51 := by kernel_rfl
  c53 := by kernel_rfl
  c75 := by kernel_rfl
  c80 := by kernel_rfl
  c85 := by kernel_rfl
  c127 := by kernel_rfl
  c143 := by kernel_rfl
  c145 := by kernel_rfl
  c167 := by kernel_rfl
  c168 := by kernel_rfl
  c171 := by kernel_rfl
  c173 := by kernel_rfl
  c175 := by kernel_rfl
  c210 := by kernel_rfl
  c212 := by kernel_rfl
  c213 := by kernel_rfl
  c232 := by kernel_rfl
  c233 := by kernel_rfl }
open Go.RowKit in
theorem Tryz.strconv_ParseInt_10_at64_ok (s : ByteArray) (hmax : s.size ≤ 9223372036854775806) (v : Int) (h : Lib.parseIntB 64 s.data.toList = .ok v) (w : World) :
    Calls Tryz.prog 108 #[.string s, .int .i64 10, .int .i64 64] w fun e w' => e = .returned (.tuple #[.int .i64 v, .nilIface]) ∧ (w' = w ∨ ∃ t, w' = Lib.bytesWorld w 5 t) := Any.strconv_ParseInt_10_at64_ok Tryz.laysC174 s hmax v h w
open Go.RowKit in
theorem Tryz.strconv_ParseInt_10_at64_range_var (s : ByteArray) (hlim : s.size ≤ 281474976710656) (h : Lib.parseIntB 64 s.data.toList = .range) (tp : TypeId) (p : Value) (w : World) (hvar : w.var? Tryz.prog "strconv.ErrRange" = some #[.iface tp p]) :
    Calls Tryz.prog 108 #[.string s, .int .i64 10, .int .i64 64] w fun e w' => ∃ N, e = .returned (.tuple #[.int .i64 (Lib.intSat 64 s.data.toList), .iface 269 (.pointer (some ⟨N, 0, none⟩))]) ∧ w.heap.size ≤ N ∧ w'.heap[N]? = some (.cells #[.string ⟨#[80, 97, 114, 115, 101, 73, 110, 116]⟩, .string s, .iface tp p] 294 (0, 0)) ∧ Below w.heap.size w w' := Any.strconv_ParseInt_10_at64_range_var Tryz.laysC174 s hlim h tp p w hvar
end Go.Proofs
/- The program's tokens: 'number', 'word', 'quoted', 'first': the kind and the size of the token that a text begins with. -/
namespace Go.Proofs.YtlpmmmmniojflaaGreatDoor
open Go.RowKit
def ErrVar (w : World) : Prop := ∃ tp p, w.var? Tryz.prog "strconv.ErrRange" = some #[.iface tp p]
theorem spn_extract0 (s : ByteArray) (k : Nat) : (s.extract 0 k).data.toList = s.data.toList.take k := by
  rw [Lib.extract_data]; simp
theorem number_close (s : ByteArray) (k : Nat) (hk : k ≤ 19) (hk0 : 0 < k) (hks : k ≤ s.size) (hsp : spn dgB s.data.toList = k) :
    Lib.parseIntB 64 (s.extract 0 k).data.toList = if 9223372036854775807 < valN (s.data.toList.take k) then .range else .ok (valN (s.data.toList.take k) : Int) := by
  rw [spn_extract0 s k]
  refine parse_digits _ ?_ ?_ ?_
  · intro h
    have := congrArg List.length h
    have hl := len_eq s
    simp only [List.length_take, List.length_nil] at this
    omega
  · have := spn_take dgB s.data.toList
    rw [hsp] at this
    exact this
  · simp only [List.length_take]; omega
theorem parse_ok (t : ByteArray) (ht : t.size ≤ 19) (v : Int) (h : Lib.parseIntB 64 t.data.toList = .ok v) (w : World) :
    Calls Tryz.prog 108 #[.string t, .int .i64 10, .int .i64 64] w fun e w' => e = .returned (.tuple #[.int .i64 v, .nilIface]) ∧ Below w.heap.size w w' := by
  refine (Tryz.strconv_ParseInt_10_at64_ok t (by omega) v h w).mono ?_
  rintro e w' ⟨rfl, rfl | ⟨t, rfl⟩⟩
  · exact ⟨rfl, Below.refl _ _⟩
  · exact ⟨rfl, Lib.bytesWorld_below w 5 t⟩
theorem parse_range (t : ByteArray) (ht : t.size ≤ 19) (h : Lib.parseIntB 64 t.data.toList = .range) (w : World) (hE : ErrVar w) :
    Calls Tryz.prog 108 #[.string t, .int .i64 10, .int .i64 64] w fun e w' => ∃ x N, e = .returned (.tuple #[.int .i64 x, .iface 269 (.pointer (some ⟨N, 0, none⟩))]) ∧ Below w.heap.size w w' := by
  obtain ⟨tp, p, hv⟩ := hE
  refine (Tryz.strconv_ParseInt_10_at64_range_var t (by omega) h tp p w hv).mono ?_
  rintro e w' ⟨N, rfl, _, _, hb⟩
  exact ⟨_, N, rfl, hb⟩
set_option maxHeartbeats 1000000 in
theorem number_any (s : ByteArray) (w : World) (hs : s.size ≤ maxLen) (h0 : 0 < s.size) (hd0 : Hid (dgB (s[0].toNat : Int) = true)) (hE : Hid (ErrVar w)) :
    Calls Tryz.prog 150 #[.string s] w fun e w' => e = .returned (.tuple #[.int .i64 (numI s.data.toList).1, .int .i64 (numI s.data.toList).2]) ∧ Below w.heap.size w w' := by
  unfold maxLen at hs
  have hst0 : Hid _ := spn_step dgB s 0 h0
  go_enter Tryz.func150, Tryz.ntmps150
  go_wp2_with fail
  go_loop [4] (fun i => ∃ k : Nat, 1 ≤ k ∧ k ≤ s.size ∧ i = .int .i64 k ∧ Hid (spn dgB s.data.toList = k + spn dgB (s.data.toList.drop k))) (fun i => s.size - (intOf i).toNat)
  case atStart => 
    have h := hst0.out
    rw [hd0.out, if_pos rfl] at h
    simp only [List.drop_zero, Nat.zero_add] at h
    exact ⟨1, by omega, by omega, rfl, by unfold Hid; omega⟩
  case round =>
    obtain ⟨k, hk1, hk, rfl, hinv⟩ := hrel
    by_cases hmore : ∃ hlt : k < s.size, dgB (s[k].toNat : Int) = true
    · obtain ⟨hlt, hg⟩ := hmore
      have hst : Hid _ := spn_step dgB s k hlt
      have HG : Hid _ := hg
      go_wp2_with (go_at_call 149; refine (digit_any _ _).mono ?_; rintro e w' ⟨rfl, rfl⟩)
      go_round
      case rel =>
        have hi := hinv.out
        have h3 := hst.out
        rw [HG.out, if_pos rfl] at h3
        exact ⟨k + 1, by omega, by omega, by go_num, by unfold Hid; omega⟩
      case measure => simp [intOf]; omega
    · have hsp : Hid (spn dgB s.data.toList = k) := by
        have hi := hinv.out
        by_cases hlt : k < s.size
        · have h3 := spn_step dgB s k hlt
          have hg : dgB (s[k].toNat : Int) = false := Bool.eq_false_iff.2 fun h => hmore ⟨hlt, h⟩
          rw [hg, if_neg (by simp)] at h3
          unfold Hid; omega
        · have e : k = s.size := by omega
          rw [e, spn_end] at hi
          unfold Hid; omega
      have hstop : k < s.size → ∀ hlt : k < s.size, dgB (s[k].toNat : Int) = false := fun _ hlt => Bool.eq_false_iff.2 fun h => hmore ⟨hlt, h⟩
      have hn : Hid (numI s.data.toList = if 19 < k then (0, 0) else if 9223372036854775807 < valN (s.data.toList.take k) then (0, 0) else (1, k)) := by
        unfold Hid numI; rw [hsp.out]
      clear hmore hinv hst0 hd0
      by_cases h19 : 19 < k
      · have hn2 : Hid (numI s.data.toList = (0, 0)) := by unfold Hid; rw [hn.out, if_pos h19]
        clear hn
        by_cases hlt : k < s.size
        · have hg := hstop hlt hlt
          clear hstop
          go_wp2_with (go_at_call 149; refine (digit_any _ _).mono ?_; rintro e w' ⟨rfl, rfl⟩)
          go_ret2
          rw [hn2.out]
          exact ⟨rfl, Below.refl _ _⟩
        · clear hstop
          go_wp2_with fail
          go_ret2
          rw [hn2.out]
          exact ⟨rfl, Below.refl _ _⟩
      · have hpar : Hid _ := number_close s k (by omega) (by omega) hk hsp.out
        by_cases hr : 9223372036854775807 < valN (s.data.toList.take k)
        · have hn2 : Hid (numI s.data.toList = (0, 0)) := by unfold Hid; rw [hn.out, if_neg h19, if_pos hr]
          have hp2 : Hid (Lib.parseIntB 64 (s.extract 0 k).data.toList = .range) := by unfold Hid; rw [hpar.out, if_pos hr]
          clear hn hpar hr hsp
          by_cases hlt : k < s.size
          · have hg := hstop hlt hlt
            clear hstop
            go_wp2_with (go_at_call 149; refine (digit_any _ _).mono ?_; rintro e w' ⟨rfl, rfl⟩)
            refine (parse_range _ (by simp; omega) hp2.out _ hE.out).mono ?_
            rintro e w' ⟨x, N, rfl, hb⟩
            go_wp2_with fail
            go_ret2
            rw [hn2.out]
            exact ⟨rfl, hb⟩
          · clear hstop
            go_wp2_with fail
            refine (parse_range _ (by simp; omega) hp2.out _ hE.out).mono ?_
            rintro e w' ⟨x, N, rfl, hb⟩
            go_wp2_with fail
            go_ret2
            rw [hn2.out]
            exact ⟨rfl, hb⟩
        · have hn2 : Hid (numI s.data.toList = (1, k)) := by unfold Hid; rw [hn.out, if_neg h19, if_neg hr]
          have hp2 : Hid (Lib.parseIntB 64 (s.extract 0 k).data.toList = .ok (valN (s.data.toList.take k) : Int)) := by unfold Hid; rw [hpar.out, if_neg hr]
          clear hn hpar hr hsp
          by_cases hlt : k < s.size
          · have hg := hstop hlt hlt
            clear hstop
            go_wp2_with (go_at_call 149; refine (digit_any _ _).mono ?_; rintro e w' ⟨rfl, rfl⟩)
            refine (parse_ok _ (by simp; omega) _ hp2.out _).mono ?_
            rintro e w' ⟨rfl, hb⟩
            go_wp2_with fail
            go_ret2
            rw [hn2.out]
            exact ⟨rfl, hb⟩
          · clear hstop
            go_wp2_with fail
            refine (parse_ok _ (by simp; omega) _ hp2.out _).mono ?_
            rintro e w' ⟨rfl, hb⟩
            go_wp2_with fail
            go_ret2
            rw [hn2.out]
            exact ⟨rfl, hb⟩
set_option maxHeartbeats 1000000 in
theorem word_any (s : ByteArray) (w : World) (hs : s.size ≤ maxLen) (h0 : 0 < s.size) (hd0 : Hid (ldB (s[0].toNat : Int) = true)) :
    Calls Tryz.prog 152 #[.string s] w fun e w' => e = .returned (.tuple #[.int .i64 (wdI s.data.toList).1, .int .i64 (wdI s.data.toList).2]) ∧ w' = w := by
  unfold maxLen at hs
  have hst0 : Hid _ := spn_step ldB s 0 h0
  go_enter Tryz.func152, Tryz.ntmps152
  go_wp2_with fail
  go_loop [4] (fun i => ∃ k : Nat, 1 ≤ k ∧ k ≤ s.size ∧ i = .int .i64 k ∧ Hid (spn ldB s.data.toList = k + spn ldB (s.data.toList.drop k))) (fun i => s.size - (intOf i).toNat)
  case atStart =>
    have h := hst0.out
    rw [hd0.out, if_pos rfl] at h
    simp only [List.drop_zero, Nat.zero_add] at h
    exact ⟨1, by omega, by omega, rfl, by unfold Hid; omega⟩
  case round =>
    obtain ⟨k, hk1, hk, rfl, hinv⟩ := hrel
    by_cases hmore : ∃ hlt : k < s.size, ldB (s[k].toNat : Int) = true
    · obtain ⟨hlt, hg⟩ := hmore
      have hst : Hid _ := spn_step ldB s k hlt
      have HG : Hid _ := hg
      cases hl : ltB (s[k].toNat : Int)
      · have hd : dgB (s[k].toNat : Int) = true := by simpa [ldB, hl] using hg
        clear hg
        go_wp2_with (first | (go_at_call 149; refine (digit_any _ _).mono ?_; rintro e w' ⟨rfl, rfl⟩) | (go_at_call 151; refine (letter_any _ _).mono ?_; rintro e w' ⟨rfl, rfl⟩))
        go_round
        case rel =>
          have hi := hinv.out
          have h3 := hst.out
          rw [HG.out, if_pos rfl] at h3
          exact ⟨k + 1, by omega, by omega, by go_num, by unfold Hid; omega⟩
        case measure => simp [intOf]; omega
      · clear hg
        go_wp2_with (first | (go_at_call 149; refine (digit_any _ _).mono ?_; rintro e w' ⟨rfl, rfl⟩) | (go_at_call 151; refine (letter_any _ _).mono ?_; rintro e w' ⟨rfl, rfl⟩))
        go_round
        case rel =>
          have hi := hinv.out
          have h3 := hst.out
          rw [HG.out, if_pos rfl] at h3
          exact ⟨k + 1, by omega, by omega, by go_num, by unfold Hid; omega⟩
        case measure => simp [intOf]; omega
    · have hsp : Hid (spn ldB s.data.toList = k) := by
        have hi := hinv.out
        by_cases hlt : k < s.size
        · have h3 := spn_step ldB s k hlt
          have hg : ldB (s[k].toNat : Int) = false := Bool.eq_false_iff.2 fun h => hmore ⟨hlt, h⟩
          rw [hg, if_neg (by simp)] at h3
          unfold Hid; omega
        · have e : k = s.size := by omega
          rw [e, spn_end] at hi
          unfold Hid; omega
      have hstop : k < s.size → ∀ hlt : k < s.size, ltB (s[k].toNat : Int) = false ∧ dgB (s[k].toNat : Int) = false := fun _ hlt => by
        have := Bool.eq_false_iff.2 fun h => hmore ⟨hlt, h⟩
        simpa [ldB] using this
      have hn : Hid (wdI s.data.toList = if 5 < k then (0, 0) else (wrdI (s.data.toList.take k), k)) := by
        unfold Hid wdI; rw [hsp.out]
      have hex : Hid (wrdI (s.extract 0 k).data.toList = wrdI (s.data.toList.take k)) := by unfold Hid; rw [spn_extract0]
      clear hmore hinv hst0 hd0
      by_cases h19 : 5 < k
      · have hn2 : Hid (wdI s.data.toList = (0, 0)) := by unfold Hid; rw [hn.out, if_pos h19]
        clear hn
        by_cases hlt : k < s.size
        · obtain ⟨hg1, hg2⟩ := hstop hlt hlt
          clear hstop
          go_wp2_with (first | (go_at_call 149; refine (digit_any _ _).mono ?_; rintro e w' ⟨rfl, rfl⟩) | (go_at_call 151; refine (letter_any _ _).mono ?_; rintro e w' ⟨rfl, rfl⟩))
          go_ret2
          rw [hn2.out]
          exact ⟨rfl, rfl⟩
        · clear hstop
          go_wp2_with fail
          go_ret2
          rw [hn2.out]
          exact ⟨rfl, rfl⟩
      · have hn2 : Hid (wdI s.data.toList = (wrdI (s.data.toList.take k), k)) := by unfold Hid; rw [hn.out, if_neg h19]
        clear hn
        by_cases hlt : k < s.size
        · obtain ⟨hg1, hg2⟩ := hstop hlt hlt
          clear hstop
          go_wp2_with (first | (go_at_call 149; refine (digit_any _ _).mono ?_; rintro e w' ⟨rfl, rfl⟩) | (go_at_call 151; refine (letter_any _ _).mono ?_; rintro e w' ⟨rfl, rfl⟩))
          refine (wordKind_any _ _ (by unfold maxLen; simp; omega)).mono ?_
          rintro e w' ⟨rfl, rfl⟩
          rw [hex.out]
          go_wp2_with fail
          go_ret2
          rw [hn2.out]
          exact ⟨rfl, rfl⟩
        · clear hstop
          go_wp2_with fail
          refine (wordKind_any _ _ (by unfold maxLen; simp; omega)).mono ?_
          rintro e w' ⟨rfl, rfl⟩
          rw [hex.out]
          go_wp2_with fail
          go_ret2
          rw [hn2.out]
          exact ⟨rfl, rfl⟩
theorem index_any (s : ByteArray) (w : World) : Calls Tryz.prog 187 #[.string s, .int .u8 34] w fun e w' => e = .returned (.int .i64 (Lib.indexByte s.data.toList 34)) ∧ w' = w :=
  Tryz.strings_IndexByte s 34 w
theorem tail_get (s : ByteArray) (j : Nat) (h : j + 1 < s.size) : (s.data.toList.drop 1)[j]? = some s[j + 1] := by
  rw [List.getElem?_drop, Nat.add_comm 1 j, List.getElem?_eq_getElem (by have := len_eq s; omega)]; rfl
set_option maxHeartbeats 1000000 in
theorem quoted_any (s : ByteArray) (w : World) (hs : s.size ≤ maxLen) (h0 : 0 < s.size) :
    Calls Tryz.prog 153 #[.string s] w fun e w' => e = .returned (.tuple #[.int .i64 (qtT s.data.toList).1, .int .i64 (qtT s.data.toList).2]) ∧ w' = w := by
  unfold maxLen at hs
  have hge := Lib.indexByte_ge (s.data.toList.drop 1) 34
  have hx : Hid ((s.extract 1 s.size).data.toList = s.data.toList.drop 1) := Lib.extract_to_end s 1
  obtain ⟨q, hq⟩ : ∃ q, Lib.indexByte (s.data.toList.drop 1) 34 = q := ⟨_, rfl⟩
  rw [hq] at hge
  have HQ : Hid _ := hq
  clear hq
  by_cases hneg : q < 0
  · have hr : Hid (qtT s.data.toList = (0, 0)) := by unfold Hid qtT; exact qt_none _ (by rw [HQ.out]; omega)
    go_enter Tryz.func153, Tryz.ntmps153
    go_wp2_with fail
    refine (index_any _ _).mono ?_
    rintro e w' ⟨rfl, rfl⟩
    rw [hx.out, HQ.out]
    go_wp2_with fail
    go_ret2
    rw [hr.out]
    exact ⟨rfl, rfl⟩
  · obtain ⟨m, rfl⟩ := Int.eq_ofNat_of_zero_le (show 0 ≤ q by omega)
    by_cases hlong : 20 < m
    · have hr : Hid (qtT s.data.toList = (0, 0)) := by unfold Hid qtT; exact qt_long _ m HQ.out hlong
      go_enter Tryz.func153, Tryz.ntmps153
      go_wp2_with fail
      refine (index_any _ _).mono ?_
      rintro e w' ⟨rfl, rfl⟩
      rw [hx.out, HQ.out]
      go_wp2_with fail
      go_ret2
      rw [hr.out]
      exact ⟨rfl, rfl⟩
    · have h34 := Lib.indexByte_some HQ.out
      have hml : m + 1 < s.size := by
        have := (List.getElem?_eq_some_iff.1 h34.1).1
        have hl := len_eq s
        simp only [List.length_drop] at this
        omega
      have H34 : Hid _ := h34
      clear h34 hge hneg
      have hend : Hid (spn pbB (s.data.toList.drop (m + 1)) = 0) := by
        have h1 := H34.out.1
        rw [tail_get s m hml] at h1
        unfold Hid
        rw [spn_step pbB s (m + 1) hml, Option.some.inj h1]
        rfl
      go_enter Tryz.func153, Tryz.ntmps153
      go_wp2_with fail
      refine (index_any _ _).mono ?_
      rintro e w' ⟨rfl, rfl⟩
      rw [hx.out, HQ.out]
      go_wp2_with fail
      go_loop [5] (fun i => ∃ k : Nat, 1 ≤ k ∧ k ≤ m + 1 ∧ i = .int .i64 k ∧ Hid (spn pbB (s.data.toList.drop 1) + 1 = k + spn pbB (s.data.toList.drop k))) (fun i => m + 1 - (intOf i).toNat)
      case atStart => exact ⟨1, by omega, by omega, rfl, by unfold Hid; omega⟩
      case round =>
        obtain ⟨k, hk1, hk, rfl, hinv⟩ := hrel
        by_cases hlt : k ≤ m
        · have hks : k < s.size := by omega
          have hst : Hid _ := spn_step pbB s k hks
          have hne : Hid ((s[k].toNat : Int) ≠ 34) := by
            unfold Hid
            intro h
            refine H34.out.2 (k - 1) (by omega) ?_
            rw [tail_get s (k - 1) (by omega)]
            congr 1
            have e : k - 1 + 1 = k := by omega
            have : s[k - 1 + 1] = s[k] := by congr 1
            rw [this]
            exact UInt8.toNat_inj.1 (by have : (34 : UInt8).toNat = 34 := rfl; omega)
          by_cases hb1 : (s[k].toNat : Int) < 32
          · go_wp2_with fail
            go_ret2
            have hr : qtT s.data.toList = (0, 0) := by
              have h3 := hst.out
              rw [if_neg (by simp [pbB]; omega)] at h3
              have hi := hinv.out
              exact qt_bad _ m HQ.out (by omega)
            rw [hr]
            exact ⟨rfl, rfl⟩
          · by_cases hb2 : 126 < (s[k].toNat : Int)
            · go_wp2_with fail
              go_ret2
              have hr : qtT s.data.toList = (0, 0) := by
                have h3 := hst.out
                rw [if_neg (by simp [pbB]; omega)] at h3
                have hi := hinv.out
                exact qt_bad _ m HQ.out (by omega)
              rw [hr]
              exact ⟨rfl, rfl⟩
            · go_wp2_with fail
              go_round
              case rel =>
                have hi := hinv.out
                have h3 := hst.out
                have h4 := hne.out
                rw [if_pos (by simp [pbB]; omega)] at h3
                exact ⟨k + 1, by omega, by omega, by go_num, by unfold Hid; omega⟩
              case measure => simp [intOf]; omega
        · go_wp2_with fail
          go_ret2
          have hr : qtT s.data.toList = (2, m + 2) := by
            have e : k = m + 1 := by omega
            have hi := hinv.out
            rw [e, hend.out] at hi
            exact qt_ok _ m HQ.out (by omega) (by omega)
          rw [hr]
          exact ⟨rfl, rfl⟩
end Go.Proofs.YtlpmmmmniojflaaGreatDoor
/- Plain mathematics of formulas, more: the tokens of a text. No program stands in it. -/
namespace Go.Proofs.YtlpmmmmniojflaaGreatDoor
theorem tok1_cons (c : UInt8) (r : List UInt8) : tok1 (c :: r) = if dgB (c.toNat : Int) = true then numI (c :: r) else if ltB (c.toNat : Int) = true then wdI (c :: r) else if c = 34 then qtT (c :: r) else (sgnI (c.toNat : Int), 1) := rfl
theorem tok1_size (l : List UInt8) (h : (tok1 l).1 ≠ 0) : 1 ≤ (tok1 l).2 ∧ (tok1 l).2 ≤ l.length := by
  match l with
  | [] => simp [tok1] at h
  | c :: r =>
    rw [tok1_cons] at h ⊢
    by_cases hd : dgB (c.toNat : Int) = true
    · rw [if_pos hd] at h ⊢
      have h1 : spn dgB (c :: r) = spn dgB r + 1 := by rw [spn, if_pos hd]
      have h2 := spn_le dgB (c :: r)
      unfold numI at h ⊢
      by_cases h3 : 19 < spn dgB (c :: r)
      · rw [if_pos h3] at h; simp at h
      · rw [if_neg h3] at h ⊢
        by_cases h4 : 9223372036854775807 < valN ((c :: r).take (spn dgB (c :: r)))
        · rw [if_pos h4] at h; simp at h
        · rw [if_neg h4]; exact ⟨by simp only; omega, h2⟩
    · rw [if_neg hd] at h ⊢
      by_cases hl : ltB (c.toNat : Int) = true
      · rw [if_pos hl] at h ⊢
        have h1 : spn ldB (c :: r) = spn ldB r + 1 := by rw [spn, if_pos (by simp [ldB, hl])]
        have h2 := spn_le ldB (c :: r)
        unfold wdI at h ⊢
        by_cases h3 : 5 < spn ldB (c :: r)
        · rw [if_pos h3] at h; simp at h
        · rw [if_neg h3]; exact ⟨by simp only; omega, h2⟩
      · rw [if_neg hl] at h ⊢
        by_cases hq : c = 34
        · rw [if_pos hq] at h ⊢
          unfold qtT qtI at h ⊢
          by_cases h3 : (List.drop 1 (c :: r))[spn pbB (List.drop 1 (c :: r))]? = some 34 ∧ spn pbB (List.drop 1 (c :: r)) ≤ 20
          · rw [if_pos h3]
            have h4 := (List.getElem?_eq_some_iff.1 h3.1).1
            simp only [List.drop_succ_cons, List.drop_zero, List.length_cons] at h4 ⊢
            omega
          · rw [if_neg h3] at h; simp at h
        · rw [if_neg hq]; simp
structure Tk where
  k : Int
  x : List UInt8
  p : Nat
def scn : Nat → List UInt8 → Nat → List Tk × Option Nat
  | 0, _, _ => ([], none)
  | _ + 1, [], _ => ([], none)
  | n + 1, c :: r, p =>
    if c = 32 then scn n r (p + 1)
    else if (tok1 (c :: r)).1 = 0 then ([], some p)
    else (⟨(tok1 (c :: r)).1, (c :: r).take (tok1 (c :: r)).2, p⟩ :: (scn n ((c :: r).drop (tok1 (c :: r)).2) (p + (tok1 (c :: r)).2)).1,
          (scn n ((c :: r).drop (tok1 (c :: r)).2) (p + (tok1 (c :: r)).2)).2)
theorem scn_nil (n p : Nat) : scn n [] p = ([], none) := by cases n <;> rfl
theorem scn_tok (n : Nat) (l : List UInt8) (p : Nat) (c : UInt8) (hc : l.head? = some c) (hb : c ≠ 32) (h0 : (tok1 l).1 ≠ 0) :
    scn (n + 1) l p = (⟨(tok1 l).1, l.take (tok1 l).2, p⟩ :: (scn n (l.drop (tok1 l).2) (p + (tok1 l).2)).1, (scn n (l.drop (tok1 l).2) (p + (tok1 l).2)).2) := by
  match l, hc with
  | a :: r, hc =>
    simp only [List.head?_cons, Option.some.injEq] at hc
    subst hc
    rw [scn, if_neg hb, if_neg h0]
end Go.Proofs.YtlpmmmmniojflaaGreatDoor
