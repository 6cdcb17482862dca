/-
  DERIVED: THE SHELF's CONTRACTS AT THIS DUMP,IN PLAIN WORDS (tools/lay-plain.mjs out of 'YtpcijhecaedkpaaGreatDoorShelf.lean',which tools/lay-shelf.mjs wrote): THE SAME DECLARATIONS UNDER THE SAME NAMES: 'import','namespace','open','def','theorem' AND NOTHING ELSE: no command of the shelf's: FOR A HAND-IN. Each laying: the table of numbers ('.._ren') and one theorem,a field a fact of the dump's own or the kernel's comparison;each contract: ONE APPLICATION.
-/
import Derived.Shelf.Strings.Builder1
import Derived.Shelf.Strings.Trim
import Derived.Shelf.Small.Bits
import Derived.Shelf.Small.Strs
import Derived.Shelf.Small.Wraps
import Derived.Shelf.Strings.BuilderF
import Derived.Shelf.Strings.BuilderK
import Derived.Shelf.Strconv.Itoa0
import Derived.Shelf.Strconv.Itoa1
import Derived.Shelf.LaysM
import Derived.Shelf.Strconv.Itoa2
import Derived.Shelf.Strconv.Itoa3
import Derived.Shelf.Strconv.Clone
import Derived.Shelf.Strings.Search1
import Derived.Shelf.Strings.Search2
import Derived.Shelf.Strings.Cut
import Derived.Shelf.Strings.Shaped
import Derived.Shelf.Strings.Prefix
import Derived.Shelf.Strings.Fields
import Derived.Shelf.Strings.Runes
import Derived.Shelf.Strings.IndexAny
import Derived.Shelf.Strings.AsciiSet
import Derived.Shelf.Strings.IndexAnyAll
import Derived.Shelf.Slices.Equal
import Derived.Shelf.Slices.Empties2
import Derived.Test.YtpcijhecaedkpaaGreatDoorProg
namespace Go.Proofs
open Go.Shelf
def Tryz.lays134_ren:Go.Shelf.Ren:=⟨fun | 134=>316 | 129=>296 | n=>n,fun | 53=>313 | 3=>3 | 4=>4 | 46=>291 | 5=>5 | 9=>9 | n=>n,fun | n=>n⟩
theorem Tryz.lays134:Go.Proofs.Lays.n134 Tryz.prog Tryz.lays134_ren:={
  mixed:=by kernel_rfl
  f129:=Tryz.func296.trans (congrArg some (by kernel_rfl))
  f134:=Tryz.func316.trans (congrArg some (by kernel_rfl))
  t3:=Tryz.underlying3
  a3:=Tryz.isAgg3
  z3:=Tryz.sizeOf3
  v3:=Tryz.zeroValue3
  t4:=Tryz.underlying4
  a4:=Tryz.isAgg4
  z4:=Tryz.sizeOf4
  v4:=Tryz.zeroValue4
  t5:=Tryz.underlying5
  a5:=Tryz.isAgg5
  z5:=Tryz.sizeOf5
  v5:=Tryz.zeroValue5
  t9:=Tryz.underlying9
  a9:=Tryz.isAgg9
  z9:=Tryz.sizeOf9
  v9:=Tryz.zeroValue9
  t46:=Tryz.underlying291
  a46:=Tryz.isAgg291
  z46:=Tryz.sizeOf291
  v46:=Tryz.zeroValue291
  t53:=Tryz.underlying313
  a53:=Tryz.isAgg313
  z53:=Tryz.sizeOf313
  v53:=Tryz.zeroValue313 }
theorem Tryz.bits_LeadingZeros64 (x:Int) (w:World) (h0:0<=x) (h1:x<=18446744073709551615) :
    Calls Tryz.prog 316 #[.int .u64 x] w fun e w'=>e=.returned (.int .i64 (64-(Lib.bitLen x.toNat:Int)))/\w'=w:=Any.bits_LeadingZeros64 Tryz.lays134 x w h0 h1
def Tryz.lays137_ren:Go.Shelf.Ren:=⟨fun | 137=>214 | 217=>246 | 266=>270 | n=>n,fun | 9=>9 | 5=>5 | 3=>3 | n=>n,fun | n=>n⟩
theorem Tryz.lays137:Go.Proofs.Lays.n137 Tryz.prog Tryz.lays137_ren:={
  mixed:=by kernel_rfl
  f137:=Tryz.func214.trans (congrArg some (by kernel_rfl))
  f217:=Tryz.func246.trans (congrArg some (by kernel_rfl))
  f266:=Tryz.func270.trans (congrArg some (by kernel_rfl))
  t3:=Tryz.underlying3
  a3:=Tryz.isAgg3
  z3:=Tryz.sizeOf3
  v3:=Tryz.zeroValue3
  t5:=Tryz.underlying5
  a5:=Tryz.isAgg5
  z5:=Tryz.sizeOf5
  v5:=Tryz.zeroValue5
  t9:=Tryz.underlying9
  a9:=Tryz.isAgg9
  z9:=Tryz.sizeOf9
  v9:=Tryz.zeroValue9 }
open Go.RowKit in
theorem Tryz.strings_IndexByte (s:ByteArray) (c:Int) (w:World) :
    Calls Tryz.prog 214 #[.string s,.int .u8 c] w fun e w'=>e=.returned (.int .i64 (Lib.indexByte s.data.toList c.toNat.toUInt8))/\w'=w:=Any.strings_IndexByte Tryz.lays137 s c w
def Tryz.lays103_ren:Go.Shelf.Ren:=⟨fun | 103=>260 | 210=>281 | 206=>294 | n=>n,fun | 9=>9 | 4=>4 | 24=>96 | 3=>3 | n=>n,fun | n=>n⟩
theorem Tryz.lays103:Go.Proofs.Lays.n103 Tryz.prog Tryz.lays103_ren:={
  mixed:=by kernel_rfl
  f103:=Tryz.func260.trans (congrArg some (by kernel_rfl))
  f206:=Tryz.func294.trans (congrArg some (by kernel_rfl))
  f210:=Tryz.func281.trans (congrArg some (by kernel_rfl))
  t3:=Tryz.underlying3
  a3:=Tryz.isAgg3
  z3:=Tryz.sizeOf3
  v3:=Tryz.zeroValue3
  t4:=Tryz.underlying4
  a4:=Tryz.isAgg4
  z4:=Tryz.sizeOf4
  v4:=Tryz.zeroValue4
  t9:=Tryz.underlying9
  a9:=Tryz.isAgg9
  z9:=Tryz.sizeOf9
  v9:=Tryz.zeroValue9
  t24:=Tryz.underlying96
  a24:=Tryz.isAgg96
  z24:=Tryz.sizeOf96
  v24:=Tryz.zeroValue96 }
open Go.RowKit in
theorem Tryz.strings_CutPrefix (s p:ByteArray) (w:World) :
    Calls Tryz.prog 260 #[.string s,.string p] w fun e w'=>e=.returned (.tuple #[.string ⟨(Lib.trimPrefix s.data.toList p.data.toList).toArray⟩,.bool (Lib.hasPrefix s.data.toList p.data.toList)])/\w'=w:=Any.strings_CutPrefix Tryz.lays103 s p w
def Tryz.laysM246_ren:Go.Shelf.Ren:=⟨fun | 246=>269 | 283=>284 | 284=>285 | 285=>286 | 286=>287 | 129=>296 | 317=>295 | 318=>297 | 319=>298 | 320=>299 | 337=>304 | 338=>305 | n=>n,fun | 2=>2 | 3=>3 | 9=>9 | 4=>4 | 171=>312 | 0=>0 | 53=>313 | 37=>123 | 5=>5 | 173=>316 | 212=>326 | 51=>282 | 20=>20 | 213=>327 | 46=>291 | 232=>342 | 233=>343 | n=>n,fun | 17=>6 | 18=>7 | 19=>8 | n=>n⟩
def Tryz.laysM243_ren:Go.Shelf.Ren:=⟨fun | 243=>244 | 246=>269 | 283=>284 | 284=>285 | 285=>286 | 286=>287 | 129=>296 | 317=>295 | 318=>297 | 319=>298 | 320=>299 | 337=>304 | 338=>305 | n=>n,fun | 3=>3 | 9=>9 | 2=>2 | 4=>4 | 171=>312 | 0=>0 | 53=>313 | 37=>123 | 5=>5 | 173=>316 | 212=>326 | 51=>282 | 20=>20 | 213=>327 | 46=>291 | 232=>342 | 233=>343 | n=>n,fun | 17=>6 | 18=>7 | 19=>8 | n=>n⟩
def Tryz.laysM171_ren:Go.Shelf.Ren:=⟨fun | 171=>211 | 243=>244 | 246=>269 | 283=>284 | 284=>285 | 285=>286 | 286=>287 | 129=>296 | 317=>295 | 318=>297 | 319=>298 | 320=>299 | 337=>304 | 338=>305 | n=>n,fun | 3=>3 | 9=>9 | 2=>2 | 4=>4 | 171=>312 | 0=>0 | 53=>313 | 37=>123 | 5=>5 | 173=>316 | 212=>326 | 51=>282 | 20=>20 | 213=>327 | 46=>291 | 232=>342 | 233=>343 | n=>n,fun | 17=>6 | 18=>7 | 19=>8 | n=>n⟩
theorem Tryz.laysM171:Go.Proofs.LaysM.n171 Tryz.prog Tryz.laysM171_ren:={
  mixed:=by kernel_rfl
  f129:=Tryz.func296.trans (congrArg some (by kernel_rfl))
  f171:=Tryz.func211.trans (congrArg some (by kernel_rfl))
  f243:=Tryz.func244.trans (congrArg some (by kernel_rfl))
  f246:=Tryz.func269.trans (congrArg some (by kernel_rfl))
  f283:=Tryz.func284.trans (congrArg some (by kernel_rfl))
  f284:=Tryz.func285.trans (congrArg some (by kernel_rfl))
  f285:=Tryz.func286.trans (congrArg some (by kernel_rfl))
  f286:=Tryz.func287.trans (congrArg some (by kernel_rfl))
  f317:=Tryz.func295.trans (congrArg some (by kernel_rfl))
  f318:=Tryz.func297.trans (congrArg some (by kernel_rfl))
  f319:=Tryz.func298.trans (congrArg some (by kernel_rfl))
  f320:=Tryz.func299.trans (congrArg some (by kernel_rfl))
  f337:=Tryz.func304.trans (congrArg some (by kernel_rfl))
  f338:=Tryz.func305.trans (congrArg some (by kernel_rfl))
  t0:=Tryz.underlying0
  a0:=Tryz.isAgg0
  z0:=Tryz.sizeOf0
  v0:=Tryz.zeroValue0
  t2:=Tryz.underlying2
  a2:=Tryz.isAgg2
  z2:=Tryz.sizeOf2
  v2:=Tryz.zeroValue2
  t3:=Tryz.underlying3
  a3:=Tryz.isAgg3
  z3:=Tryz.sizeOf3
  v3:=Tryz.zeroValue3
  t4:=Tryz.underlying4
  a4:=Tryz.isAgg4
  z4:=Tryz.sizeOf4
  v4:=Tryz.zeroValue4
  t5:=Tryz.underlying5
  a5:=Tryz.isAgg5
  z5:=Tryz.sizeOf5
  v5:=Tryz.zeroValue5
  t9:=Tryz.underlying9
  a9:=Tryz.isAgg9
  z9:=Tryz.sizeOf9
  v9:=Tryz.zeroValue9
  t20:=Tryz.underlying20
  a20:=Tryz.isAgg20
  z20:=Tryz.sizeOf20
  v20:=Tryz.zeroValue20
  t37:=Tryz.underlying123
  a37:=Tryz.isAgg123
  z37:=Tryz.sizeOf123
  v37:=Tryz.zeroValue123
  t46:=Tryz.underlying291
  a46:=Tryz.isAgg291
  z46:=Tryz.sizeOf291
  v46:=Tryz.zeroValue291
  t51:=Tryz.underlying282
  a51:=Tryz.isAgg282
  z51:=Tryz.sizeOf282
  v51:=Tryz.zeroValue282
  t53:=Tryz.underlying313
  a53:=Tryz.isAgg313
  z53:=Tryz.sizeOf313
  v53:=Tryz.zeroValue313
  t171:=Tryz.underlying312
  a171:=Tryz.isAgg312
  z171:=Tryz.sizeOf312
  v171:=Tryz.zeroValue312
  t173:=Tryz.underlying316
  a173:=Tryz.isAgg316
  z173:=Tryz.sizeOf316
  v173:=Tryz.zeroValue316
  t212:=Tryz.underlying326
  a212:=Tryz.isAgg326
  z212:=Tryz.sizeOf326
  v212:=Tryz.zeroValue326
  t213:=Tryz.underlying327
  a213:=Tryz.isAgg327
  z213:=Tryz.sizeOf327
  t232:=Tryz.underlying342
  a232:=Tryz.isAgg342
  z232:=Tryz.sizeOf342
  v232:=Tryz.zeroValue342
  t233:=Tryz.underlying343
  a233:=Tryz.isAgg343
  z233:=Tryz.sizeOf343
  v233:=Tryz.zeroValue343
  g17:=by kernel_rfl
  g18:=by kernel_rfl
  g19:=by kernel_rfl
  i0:=by kernel_rfl
  i2:=by kernel_rfl
  i3:=by kernel_rfl
  i4:=by kernel_rfl
  i5:=by kernel_rfl
  i9:=by kernel_rfl
  i20:=by kernel_rfl
  i37:=by kernel_rfl
  i46:=by kernel_rfl
  i51:=by kernel_rfl
  i53:=by kernel_rfl
  i171:=by kernel_rfl
  i173:=by kernel_rfl
  i212:=by kernel_rfl
  i232:=by kernel_rfl
  i233:=by kernel_rfl
  m17:=by kernel_rfl
  m18:=by kernel_rfl
  m19:=by kernel_rfl }
open Go.RowKit Go.Sort Go.Lib in
theorem Tryz.strconv_Itoa (n : Int) (h0 : -9223372036854775808 ≤ n) (h1 : n ≤ 9223372036854775807) (w : World) (htab : Lib.TabIs Tryz.prog w "internal/strconv.uint64pow10" .u64 Lib.pow10Tab) :
    Calls Tryz.prog 211 #[.int .i64 n] w fun e w'=>e=.returned (.string ⟨(Lib.itoa n).toArray⟩)/\∃ k os,w'=grow (w.drewN k) os:=Any.strconv_Itoa Tryz.laysM171 n h0 h1 w htab
def Tryz.laysM316_ren:Go.Shelf.Ren:=⟨fun | 316=>293 | n=>n,fun | 9=>9 | 3=>3 | 4=>4 | 37=>123 | 0=>0 | 127=>209 | 5=>5 | n=>n,fun | n=>n⟩
theorem Tryz.laysM316:Go.Proofs.LaysM.n316 Tryz.prog Tryz.laysM316_ren:={
  mixed:=by kernel_rfl
  f316:=Tryz.func293.trans (congrArg some (by kernel_rfl))
  t0:=Tryz.underlying0
  a0:=Tryz.isAgg0
  z0:=Tryz.sizeOf0
  v0:=Tryz.zeroValue0
  t3:=Tryz.underlying3
  a3:=Tryz.isAgg3
  z3:=Tryz.sizeOf3
  v3:=Tryz.zeroValue3
  t4:=Tryz.underlying4
  a4:=Tryz.isAgg4
  z4:=Tryz.sizeOf4
  v4:=Tryz.zeroValue4
  t9:=Tryz.underlying9
  a9:=Tryz.isAgg9
  z9:=Tryz.sizeOf9
  v9:=Tryz.zeroValue9
  t37:=Tryz.underlying123
  a37:=Tryz.isAgg123
  z37:=Tryz.sizeOf123
  v37:=Tryz.zeroValue123
  t127:=Tryz.underlying209
  a127:=Tryz.isAgg209
  z127:=Tryz.sizeOf209
  v127:=Tryz.zeroValue209
  t5:=Tryz.underlying5
  a5:=Tryz.isAgg5
  z5:=Tryz.sizeOf5
  v5:=Tryz.zeroValue5
  i0:=by kernel_rfl
  i3:=by kernel_rfl
  i4:=by kernel_rfl
  i5:=by kernel_rfl
  i9:=by kernel_rfl
  i37:=by kernel_rfl
  i127:=by kernel_rfl }
open Go.RowKit in
theorem Tryz.stringslite_Clone (s:ByteArray) (w:World) (hlim:s.size<=281474976710656) :
    Calls Tryz.prog 293 #[.string s] w fun e w'=>e=.returned (.string s)/\Below w.heap.size w w':=Any.stringslite_Clone Tryz.laysM316 s w hlim
def Tryz.lays219_ren:Go.Shelf.Ren:=⟨fun | 219=>253 | 217=>246 | 225=>273 | 224=>272 | 267=>274 | 266=>270 | 314=>288 | n=>n,fun | 9=>9 | 3=>3 | 4=>4 | 5=>5 | 46=>291 | 146=>318 | 51=>282 | n=>n,fun | 1=>5 | n=>n⟩
def Tryz.lays145_ren:Go.Shelf.Ren:=⟨fun | 145=>150 | 220=>226 | 219=>253 | 217=>246 | 225=>273 | 224=>272 | 267=>274 | 266=>270 | 314=>288 | n=>n,fun | 9=>9 | 4=>4 | 59=>227 | 3=>3 | 5=>5 | 46=>291 | 146=>318 | 51=>282 | n=>n,fun | 1=>5 | n=>n⟩
theorem Tryz.lays145:Go.Proofs.Lays.n145 Tryz.prog Tryz.lays145_ren:={
  mixed:=by kernel_rfl
  f145:=Tryz.func150.trans (congrArg some (by kernel_rfl))
  f217:=Tryz.func246.trans (congrArg some (by kernel_rfl))
  f219:=Tryz.func253.trans (congrArg some (by kernel_rfl))
  f220:=Tryz.func226.trans (congrArg some (by kernel_rfl))
  f224:=Tryz.func272.trans (congrArg some (by kernel_rfl))
  f225:=Tryz.func273.trans (congrArg some (by kernel_rfl))
  f266:=Tryz.func270.trans (congrArg some (by kernel_rfl))
  f267:=Tryz.func274.trans (congrArg some (by kernel_rfl))
  f314:=Tryz.func288.trans (congrArg some (by kernel_rfl))
  t3:=Tryz.underlying3
  a3:=Tryz.isAgg3
  z3:=Tryz.sizeOf3
  v3:=Tryz.zeroValue3
  t4:=Tryz.underlying4
  a4:=Tryz.isAgg4
  z4:=Tryz.sizeOf4
  v4:=Tryz.zeroValue4
  t5:=Tryz.underlying5
  a5:=Tryz.isAgg5
  z5:=Tryz.sizeOf5
  v5:=Tryz.zeroValue5
  t9:=Tryz.underlying9
  a9:=Tryz.isAgg9
  z9:=Tryz.sizeOf9
  v9:=Tryz.zeroValue9
  t46:=Tryz.underlying291
  a46:=Tryz.isAgg291
  z46:=Tryz.sizeOf291
  v46:=Tryz.zeroValue291
  t51:=Tryz.underlying282
  a51:=Tryz.isAgg282
  z51:=Tryz.sizeOf282
  v51:=Tryz.zeroValue282
  t59:=Tryz.underlying227
  a59:=Tryz.isAgg227
  z59:=Tryz.sizeOf227
  v59:=Tryz.zeroValue227
  t146:=Tryz.underlying318
  a146:=Tryz.isAgg318
  z146:=Tryz.sizeOf318
  v146:=Tryz.zeroValue318
  g1:=by kernel_rfl }
open Go.RowKit Go.Lib in
theorem Tryz.strings_Cut (s sep:ByteArray) (m:Int) (w:World) (hs:s.size<4294967281) (hm:w.cell? ⟨5,0,none⟩=some (.int .i64 m)) :
    Calls Tryz.prog 150 #[.string s,.string sep] w fun e w'=>e=.returned (.tuple #[.string ⟨(Lib.cut s.data.toList sep.data.toList).1.toArray⟩,.string ⟨(Lib.cut s.data.toList sep.data.toList).2.1.toArray⟩,.bool (Lib.cut s.data.toList sep.data.toList).2.2])/\∃ n,w'=w.drewN n:=Any.strings_Cut Tryz.lays145 s sep m w hs hm
def Tryz.lays157_ren:Go.Shelf.Ren:=⟨fun | 157=>151 | 229=>227 | 199=>228 | 261=>254 | 311=>275 | 312=>276 | n=>n,fun | 9=>9 | 31=>22 | 3=>3 | 5=>5 | 4=>4 | 119=>262 | 0=>0 | 40=>264 | 152=>279 | 21=>21 | 154=>281 | 51=>282 | 141=>284 | 196=>298 | 193=>295 | 198=>301 | 49=>299 | 194=>296 | 201=>304 | 226=>320 | 46=>291 | 227=>321 | n=>n,fun | 0=>1 | 6=>2 | n=>n⟩
theorem Tryz.lays157:Go.Proofs.Lays.n157 Tryz.prog Tryz.lays157_ren:={
  mixed:=by kernel_rfl
  f157:=Tryz.func151.trans (congrArg some (by kernel_rfl))
  f199:=Tryz.func228.trans (congrArg some (by kernel_rfl))
  f229:=Tryz.func227.trans (congrArg some (by kernel_rfl))
  f261:=Tryz.func254.trans (congrArg some (by kernel_rfl))
  f311:=Tryz.func275.trans (congrArg some (by kernel_rfl))
  f312:=Tryz.func276.trans (congrArg some (by kernel_rfl))
  t0:=Tryz.underlying0
  a0:=Tryz.isAgg0
  z0:=Tryz.sizeOf0
  v0:=Tryz.zeroValue0
  t3:=Tryz.underlying3
  a3:=Tryz.isAgg3
  z3:=Tryz.sizeOf3
  v3:=Tryz.zeroValue3
  t4:=Tryz.underlying4
  a4:=Tryz.isAgg4
  z4:=Tryz.sizeOf4
  v4:=Tryz.zeroValue4
  t5:=Tryz.underlying5
  a5:=Tryz.isAgg5
  z5:=Tryz.sizeOf5
  v5:=Tryz.zeroValue5
  t9:=Tryz.underlying9
  a9:=Tryz.isAgg9
  z9:=Tryz.sizeOf9
  v9:=Tryz.zeroValue9
  t21:=Tryz.underlying21
  a21:=Tryz.isAgg21
  z21:=Tryz.sizeOf21
  v21:=Tryz.zeroValue21
  t31:=Tryz.underlying22
  a31:=Tryz.isAgg22
  z31:=Tryz.sizeOf22
  v31:=Tryz.zeroValue22
  t40:=Tryz.underlying264
  a40:=Tryz.isAgg264
  z40:=Tryz.sizeOf264
  v40:=Tryz.zeroValue264
  t46:=Tryz.underlying291
  a46:=Tryz.isAgg291
  z46:=Tryz.sizeOf291
  v46:=Tryz.zeroValue291
  t49:=Tryz.underlying299
  a49:=Tryz.isAgg299
  z49:=Tryz.sizeOf299
  v49:=Tryz.zeroValue299
  t51:=Tryz.underlying282
  a51:=Tryz.isAgg282
  z51:=Tryz.sizeOf282
  v51:=Tryz.zeroValue282
  t119:=Tryz.underlying262
  a119:=Tryz.isAgg262
  z119:=Tryz.sizeOf262
  t141:=Tryz.underlying284
  a141:=Tryz.isAgg284
  z141:=Tryz.sizeOf284
  v141:=Tryz.zeroValue284
  t152:=Tryz.underlying279
  a152:=Tryz.isAgg279
  z152:=Tryz.sizeOf279
  v152:=Tryz.zeroValue279
  t154:=Tryz.underlying281
  a154:=Tryz.isAgg281
  z154:=Tryz.sizeOf281
  v154:=Tryz.zeroValue281
  t193:=Tryz.underlying295
  a193:=Tryz.isAgg295
  z193:=Tryz.sizeOf295
  v193:=Tryz.zeroValue295
  t194:=Tryz.underlying296
  a194:=Tryz.isAgg296
  z194:=Tryz.sizeOf296
  v194:=Tryz.zeroValue296
  t196:=Tryz.underlying298
  a196:=Tryz.isAgg298
  z196:=Tryz.sizeOf298
  v196:=Tryz.zeroValue298
  t198:=Tryz.underlying301
  a198:=Tryz.isAgg301
  z198:=Tryz.sizeOf301
  v198:=Tryz.zeroValue301
  t201:=Tryz.underlying304
  a201:=Tryz.isAgg304
  z201:=Tryz.sizeOf304
  v201:=Tryz.zeroValue304
  t226:=Tryz.underlying320
  a226:=Tryz.isAgg320
  z226:=Tryz.sizeOf320
  v226:=Tryz.zeroValue320
  t227:=Tryz.underlying321
  a227:=Tryz.isAgg321
  z227:=Tryz.sizeOf321
  v227:=Tryz.zeroValue321
  g0:=by kernel_rfl
  g6:=by kernel_rfl }
open Go.RowKit Go.Lib in
theorem Tryz.strings_Fields (s : ByteArray) (w : World) (hs : s.size < 4294967281) (hascii : ∀ (j : Nat) b, s.data.toList[j]? = some b → b.toNat < 128) (htab : Lib.TabIs Tryz.prog w "strings.asciiSpace" .u8 Lib.asciiSpaceTab) :
    Calls Tryz.prog 151 #[.string s] w fun e w'=>
      e=.returned (.slice (some ⟨w.heap.size,0,none⟩) (Lib.fields s.data.toList).length (Lib.fields s.data.toList).length)/\w'=w.alloc (.cells ((Lib.fields s.data.toList).map fun l=>Value.string ⟨l.toArray⟩).toArray 9):=Any.strings_Fields Tryz.lays157 (by kernel_rfl) (by kernel_rfl) s w hs hascii htab
def Tryz.lays152_ren:Go.Shelf.Ren:=⟨fun | 152=>251 | 137=>214 | 119=>271 | 224=>272 | 225=>273 | 217=>246 | 266=>270 | n=>n,fun | 9=>9 | 21=>21 | 3=>3 | 4=>4 | 5=>5 | 0=>0 | 46=>291 | n=>n,fun | n=>n⟩
theorem Tryz.lays152:Go.Proofs.Lays.n152 Tryz.prog Tryz.lays152_ren:={
  mixed:=by kernel_rfl
  f119:=Tryz.func271.trans (congrArg some (by kernel_rfl))
  f137:=Tryz.func214.trans (congrArg some (by kernel_rfl))
  f152:=Tryz.func251.trans (congrArg some (by kernel_rfl))
  f217:=Tryz.func246.trans (congrArg some (by kernel_rfl))
  f224:=Tryz.func272.trans (congrArg some (by kernel_rfl))
  f225:=Tryz.func273.trans (congrArg some (by kernel_rfl))
  f266:=Tryz.func270.trans (congrArg some (by kernel_rfl))
  t0:=Tryz.underlying0
  a0:=Tryz.isAgg0
  z0:=Tryz.sizeOf0
  v0:=Tryz.zeroValue0
  t3:=Tryz.underlying3
  a3:=Tryz.isAgg3
  z3:=Tryz.sizeOf3
  v3:=Tryz.zeroValue3
  t4:=Tryz.underlying4
  a4:=Tryz.isAgg4
  z4:=Tryz.sizeOf4
  v4:=Tryz.zeroValue4
  t5:=Tryz.underlying5
  a5:=Tryz.isAgg5
  z5:=Tryz.sizeOf5
  v5:=Tryz.zeroValue5
  t9:=Tryz.underlying9
  a9:=Tryz.isAgg9
  z9:=Tryz.sizeOf9
  v9:=Tryz.zeroValue9
  t21:=Tryz.underlying21
  a21:=Tryz.isAgg21
  z21:=Tryz.sizeOf21
  v21:=Tryz.zeroValue21
  t46:=Tryz.underlying291
  a46:=Tryz.isAgg291
  z46:=Tryz.sizeOf291
  v46:=Tryz.zeroValue291 }
open Go.RowKit Go.Lib in
theorem Tryz.strings_IndexRune_ascii (s:ByteArray) (r:Int) (w:World) (h0:0<=r) (h1:r<128) :
    Calls Tryz.prog 251 #[.string s,.int .i32 r] w fun e w'=>e=.returned (.int .i64 (Lib.indexByte s.data.toList r.toNat.toUInt8))/\w'=w:=Any.strings_IndexRune_ascii Tryz.lays152 s r w h0 h1
def Tryz.lays153_ren:Go.Shelf.Ren:=⟨fun | 153=>242 | 152=>251 | 226=>268 | 227=>144 | 228=>222 | 137=>214 | 119=>271 | 224=>272 | 225=>273 | 217=>246 | 266=>270 | n=>n,fun | 9=>9 | 3=>3 | 4=>4 | 5=>5 | 21=>21 | 117=>219 | 116=>218 | 0=>0 | 46=>291 | 124=>222 | n=>n,fun | n=>n⟩
theorem Tryz.lays153:Go.Proofs.Lays.n153 Tryz.prog Tryz.lays153_ren:={
  mixed:=by kernel_rfl
  f119:=Tryz.func271.trans (congrArg some (by kernel_rfl))
  f137:=Tryz.func214.trans (congrArg some (by kernel_rfl))
  f152:=Tryz.func251.trans (congrArg some (by kernel_rfl))
  f153:=Tryz.func242.trans (congrArg some (by kernel_rfl))
  f217:=Tryz.func246.trans (congrArg some (by kernel_rfl))
  f224:=Tryz.func272.trans (congrArg some (by kernel_rfl))
  f225:=Tryz.func273.trans (congrArg some (by kernel_rfl))
  f226:=Tryz.func268.trans (congrArg some (by kernel_rfl))
  f227:=Tryz.func144.trans (congrArg some (by kernel_rfl))
  f228:=Tryz.func222.trans (congrArg some (by kernel_rfl))
  f266:=Tryz.func270.trans (congrArg some (by kernel_rfl))
  t0:=Tryz.underlying0
  a0:=Tryz.isAgg0
  z0:=Tryz.sizeOf0
  v0:=Tryz.zeroValue0
  t3:=Tryz.underlying3
  a3:=Tryz.isAgg3
  z3:=Tryz.sizeOf3
  v3:=Tryz.zeroValue3
  t4:=Tryz.underlying4
  a4:=Tryz.isAgg4
  z4:=Tryz.sizeOf4
  v4:=Tryz.zeroValue4
  t5:=Tryz.underlying5
  a5:=Tryz.isAgg5
  z5:=Tryz.sizeOf5
  v5:=Tryz.zeroValue5
  t9:=Tryz.underlying9
  a9:=Tryz.isAgg9
  z9:=Tryz.sizeOf9
  v9:=Tryz.zeroValue9
  t21:=Tryz.underlying21
  a21:=Tryz.isAgg21
  z21:=Tryz.sizeOf21
  v21:=Tryz.zeroValue21
  t46:=Tryz.underlying291
  a46:=Tryz.isAgg291
  z46:=Tryz.sizeOf291
  v46:=Tryz.zeroValue291
  t116:=Tryz.underlying218
  a116:=Tryz.isAgg218
  z116:=Tryz.sizeOf218
  t117:=Tryz.underlying219
  a117:=Tryz.isAgg219
  z117:=Tryz.sizeOf219
  v117:=Tryz.zeroValue219
  t124:=Tryz.underlying222
  a124:=Tryz.isAgg222
  z124:=Tryz.sizeOf222
  v124:=Tryz.zeroValue222 }
def Tryz.lays227_ren:Go.Shelf.Ren:=⟨fun | 227=>144 | n=>n,fun | 9=>9 | 116=>218 | 4=>4 | 0=>0 | 3=>3 | 5=>5 | n=>n,fun | n=>n⟩
theorem Tryz.lays227:Go.Proofs.Lays.n227 Tryz.prog Tryz.lays227_ren:={
  mixed:=by kernel_rfl
  f227:=Tryz.func144.trans (congrArg some (by kernel_rfl))
  t0:=Tryz.underlying0
  a0:=Tryz.isAgg0
  z0:=Tryz.sizeOf0
  v0:=Tryz.zeroValue0
  t3:=Tryz.underlying3
  a3:=Tryz.isAgg3
  z3:=Tryz.sizeOf3
  v3:=Tryz.zeroValue3
  t4:=Tryz.underlying4
  a4:=Tryz.isAgg4
  z4:=Tryz.sizeOf4
  v4:=Tryz.zeroValue4
  t5:=Tryz.underlying5
  a5:=Tryz.isAgg5
  z5:=Tryz.sizeOf5
  v5:=Tryz.zeroValue5
  t9:=Tryz.underlying9
  a9:=Tryz.isAgg9
  z9:=Tryz.sizeOf9
  v9:=Tryz.zeroValue9
  t116:=Tryz.underlying218
  a116:=Tryz.isAgg218
  z116:=Tryz.sizeOf218 }
open Go.RowKit Go.Lib in
theorem Tryz.strings_makeASCIISet (hv116:∀ w,(zeroValue 218).run Tryz.prog w=.ok (.agg (Array.replicate 256 (.bool false))) w) (chars:ByteArray) (w:World) (hs:chars.size<4294967281) (hascii:∀ (j:Nat) b,chars.data.toList[j]?=some b->b.toNat<128) :
    Calls Tryz.prog 144 #[.string chars] w fun e w'=>e=.returned (.tuple #[.agg (Lib.setCells chars.data.toList),.bool true])/\w'=w.alloc (.cells (Lib.setCells chars.data.toList) 218):=Any.strings_makeASCIISet Tryz.lays227 hv116 (by kernel_rfl) chars w hs hascii
open Go.RowKit Go.Lib in
theorem Tryz.strings_IndexAny_long (hv116:∀ w,(zeroValue 218).run Tryz.prog w=.ok (.agg (Array.replicate 256 (.bool false))) w) (s chars:ByteArray) (w:World) (h2:2<=chars.size) (h8:8<s.size) (hs:s.size<4294967281) (hcs:chars.size<4294967281) (hascii:∀ (j:Nat) b,chars.data.toList[j]?=some b->b.toNat<128) :
    Calls Tryz.prog 242 #[.string s,.string chars] w fun e w'=>e=.returned (.int .i64 (Lib.indexAny s.data.toList chars.data.toList))/\w'=((w.alloc (.cells (Lib.setCells chars.data.toList) 218)).alloc (.cells (Lib.setCells chars.data.toList) 218)):=Any.strings_IndexAny_long Tryz.lays153 hv116 (by kernel_rfl) s chars w h2 h8 hs hcs hascii
end Go.Proofs
