/-
  DERIVED: THE SHELF's CONTRACTS AT THIS DUMP,IN PLAIN WORDS (tools/lay-plain.mjs out of 'TryzShelf.lean',which tools/lay-shelf.mjs wrote): THE SAME DECLARATIONS UNDER THE SAME NAMES: 'import','namespace','open','def','theorem' AND NOTHING ELSE: no command of the shelf's: FOR A HAND-IN. Each laying: the table of numbers ('.._ren') and one theorem,a field a fact of the dump's own or the kernel's comparison;each contract: ONE APPLICATION.
-/
import Derived.Shelf.Strings.Builder1
import Derived.Shelf.Strings.Trim
import Derived.Shelf.Small.Bits
import Derived.Shelf.Small.Strs
import Derived.Shelf.Small.Wraps
import Derived.Shelf.Strings.BuilderF
import Derived.Shelf.Strings.BuilderK
import Derived.Shelf.Strconv.Itoa0
import Derived.Shelf.Strconv.Itoa1
import Derived.Shelf.LaysM
import Derived.Shelf.Strconv.Itoa2
import Derived.Shelf.Strconv.Itoa3
import Derived.Shelf.Strconv.Clone
import Derived.Shelf.Strings.Search1
import Derived.Shelf.Strings.Search2
import Derived.Shelf.Strings.Cut
import Derived.Shelf.Strings.Shaped
import Derived.Shelf.Strings.Prefix
import Derived.Shelf.Strings.Fields
import Derived.Shelf.Strings.Runes
import Derived.Shelf.Strings.IndexAny
import Derived.Shelf.Strings.AsciiSet
import Derived.Shelf.Strings.IndexAnyAll
import Derived.Test.YtjgghimjnbjlbaaGreatDoorProg
namespace Go.Proofs
open Go.Shelf
def Tryz.lays134_ren:Go.Shelf.Ren:=⟨fun | 134=>274 | 129=>261 | n=>n,fun | 53=>289 | 3=>3 | 4=>4 | 46=>257 | 5=>5 | 9=>9 | n=>n,fun | n=>n⟩
theorem Tryz.lays134:Go.Proofs.Lays.n134 Tryz.prog Tryz.lays134_ren:={
  mixed:=by kernel_rfl
  f129:=Tryz.func261.trans (congrArg some (by kernel_rfl))
  f134:=Tryz.func274.trans (congrArg some (by kernel_rfl))
  t3:=Tryz.underlying3
  a3:=Tryz.isAgg3
  z3:=Tryz.sizeOf3
  v3:=Tryz.zeroValue3
  t4:=Tryz.underlying4
  a4:=Tryz.isAgg4
  z4:=Tryz.sizeOf4
  v4:=Tryz.zeroValue4
  t5:=Tryz.underlying5
  a5:=Tryz.isAgg5
  z5:=Tryz.sizeOf5
  v5:=Tryz.zeroValue5
  t9:=Tryz.underlying9
  a9:=Tryz.isAgg9
  z9:=Tryz.sizeOf9
  v9:=Tryz.zeroValue9
  t46:=Tryz.underlying257
  a46:=Tryz.isAgg257
  z46:=Tryz.sizeOf257
  v46:=Tryz.zeroValue257
  t53:=Tryz.underlying289
  a53:=Tryz.isAgg289
  z53:=Tryz.sizeOf289
  v53:=Tryz.zeroValue289 }
theorem Tryz.bits_LeadingZeros64 (x:Int) (w:World) (h0:0<=x) (h1:x<=18446744073709551615) :
    Calls Tryz.prog 274 #[.int .u64 x] w fun e w'=>e=.returned (.int .i64 (64-(Lib.bitLen x.toNat:Int)))/\w'=w:=Any.bits_LeadingZeros64 Tryz.lays134 x w h0 h1
def Tryz.lays137_ren:Go.Shelf.Ren:=⟨fun | 137=>87 | 217=>153 | 266=>199 | n=>n,fun | 9=>9 | 5=>5 | 3=>3 | n=>n,fun | n=>n⟩
theorem Tryz.lays137:Go.Proofs.Lays.n137 Tryz.prog Tryz.lays137_ren:={
  mixed:=by kernel_rfl
  f137:=Tryz.func87.trans (congrArg some (by kernel_rfl))
  f217:=Tryz.func153.trans (congrArg some (by kernel_rfl))
  f266:=Tryz.func199.trans (congrArg some (by kernel_rfl))
  t3:=Tryz.underlying3
  a3:=Tryz.isAgg3
  z3:=Tryz.sizeOf3
  v3:=Tryz.zeroValue3
  t5:=Tryz.underlying5
  a5:=Tryz.isAgg5
  z5:=Tryz.sizeOf5
  v5:=Tryz.zeroValue5
  t9:=Tryz.underlying9
  a9:=Tryz.isAgg9
  z9:=Tryz.sizeOf9
  v9:=Tryz.zeroValue9 }
open Go.RowKit in
theorem Tryz.strings_IndexByte (s:ByteArray) (c:Int) (w:World) :
    Calls Tryz.prog 87 #[.string s,.int .u8 c] w fun e w'=>e=.returned (.int .i64 (Lib.indexByte s.data.toList c.toNat.toUInt8))/\w'=w:=Any.strings_IndexByte Tryz.lays137 s c w
def Tryz.lays210_ren:Go.Shelf.Ren:=⟨fun | 210=>237 | 206=>247 | n=>n,fun | 9=>9 | 4=>4 | 3=>3 | n=>n,fun | n=>n⟩
def Tryz.lays103_ren:Go.Shelf.Ren:=⟨fun | 103=>217 | 210=>237 | 206=>247 | n=>n,fun | 9=>9 | 4=>4 | 24=>189 | 3=>3 | n=>n,fun | n=>n⟩
theorem Tryz.lays103:Go.Proofs.Lays.n103 Tryz.prog Tryz.lays103_ren:={
  mixed:=by kernel_rfl
  f103:=Tryz.func217.trans (congrArg some (by kernel_rfl))
  f206:=Tryz.func247.trans (congrArg some (by kernel_rfl))
  f210:=Tryz.func237.trans (congrArg some (by kernel_rfl))
  t3:=Tryz.underlying3
  a3:=Tryz.isAgg3
  z3:=Tryz.sizeOf3
  v3:=Tryz.zeroValue3
  t4:=Tryz.underlying4
  a4:=Tryz.isAgg4
  z4:=Tryz.sizeOf4
  v4:=Tryz.zeroValue4
  t9:=Tryz.underlying9
  a9:=Tryz.isAgg9
  z9:=Tryz.sizeOf9
  v9:=Tryz.zeroValue9
  t24:=Tryz.underlying189
  a24:=Tryz.isAgg189
  z24:=Tryz.sizeOf189
  v24:=Tryz.zeroValue189 }
open Go.RowKit in
theorem Tryz.strings_CutPrefix (s p:ByteArray) (w:World) :
    Calls Tryz.prog 217 #[.string s,.string p] w fun e w'=>e=.returned (.tuple #[.string ⟨(Lib.trimPrefix s.data.toList p.data.toList).toArray⟩,.bool (Lib.hasPrefix s.data.toList p.data.toList)])/\w'=w:=Any.strings_CutPrefix Tryz.lays103 s p w
def Tryz.laysM316_ren:Go.Shelf.Ren:=⟨fun | 316=>71 | n=>n,fun | 9=>9 | 3=>3 | 4=>4 | 37=>156 | 0=>0 | 127=>157 | 5=>5 | n=>n,fun | n=>n⟩
theorem Tryz.laysM316:Go.Proofs.LaysM.n316 Tryz.prog Tryz.laysM316_ren:={
  mixed:=by kernel_rfl
  f316:=Tryz.func71.trans (congrArg some (by kernel_rfl))
  t0:=Tryz.underlying0
  a0:=Tryz.isAgg0
  z0:=Tryz.sizeOf0
  v0:=Tryz.zeroValue0
  t3:=Tryz.underlying3
  a3:=Tryz.isAgg3
  z3:=Tryz.sizeOf3
  v3:=Tryz.zeroValue3
  t4:=Tryz.underlying4
  a4:=Tryz.isAgg4
  z4:=Tryz.sizeOf4
  v4:=Tryz.zeroValue4
  t9:=Tryz.underlying9
  a9:=Tryz.isAgg9
  z9:=Tryz.sizeOf9
  v9:=Tryz.zeroValue9
  t37:=Tryz.underlying156
  a37:=Tryz.isAgg156
  z37:=Tryz.sizeOf156
  v37:=Tryz.zeroValue156
  t127:=Tryz.underlying157
  a127:=Tryz.isAgg157
  z127:=Tryz.sizeOf157
  v127:=Tryz.zeroValue157
  t5:=Tryz.underlying5
  a5:=Tryz.isAgg5
  z5:=Tryz.sizeOf5
  v5:=Tryz.zeroValue5
  i0:=by kernel_rfl
  i3:=by kernel_rfl
  i4:=by kernel_rfl
  i5:=by kernel_rfl
  i9:=by kernel_rfl
  i37:=by kernel_rfl
  i127:=by kernel_rfl }
open Go.RowKit in
theorem Tryz.stringslite_Clone (s:ByteArray) (w:World) (hlim:s.size<=281474976710656) :
    Calls Tryz.prog 71 #[.string s] w fun e w'=>e=.returned (.string s)/\Below w.heap.size w w':=Any.stringslite_Clone Tryz.laysM316 s w hlim
def Tryz.lays219_ren:Go.Shelf.Ren:=⟨fun | 219=>207 | 217=>153 | 225=>229 | 224=>228 | 267=>230 | 266=>199 | 314=>241 | n=>n,fun | 9=>9 | 3=>3 | 4=>4 | 5=>5 | 46=>257 | 146=>280 | 51=>236 | n=>n,fun | 1=>3 | n=>n⟩
def Tryz.lays145_ren:Go.Shelf.Ren:=⟨fun | 145=>128 | 220=>180 | 219=>207 | 217=>153 | 225=>229 | 224=>228 | 267=>230 | 266=>199 | 314=>241 | n=>n,fun | 9=>9 | 4=>4 | 59=>183 | 3=>3 | 5=>5 | 46=>257 | 146=>280 | 51=>236 | n=>n,fun | 1=>3 | n=>n⟩
theorem Tryz.lays145:Go.Proofs.Lays.n145 Tryz.prog Tryz.lays145_ren:={
  mixed:=by kernel_rfl
  f145:=Tryz.func128.trans (congrArg some (by kernel_rfl))
  f217:=Tryz.func153.trans (congrArg some (by kernel_rfl))
  f219:=Tryz.func207.trans (congrArg some (by kernel_rfl))
  f220:=Tryz.func180.trans (congrArg some (by kernel_rfl))
  f224:=Tryz.func228.trans (congrArg some (by kernel_rfl))
  f225:=Tryz.func229.trans (congrArg some (by kernel_rfl))
  f266:=Tryz.func199.trans (congrArg some (by kernel_rfl))
  f267:=Tryz.func230.trans (congrArg some (by kernel_rfl))
  f314:=Tryz.func241.trans (congrArg some (by kernel_rfl))
  t3:=Tryz.underlying3
  a3:=Tryz.isAgg3
  z3:=Tryz.sizeOf3
  v3:=Tryz.zeroValue3
  t4:=Tryz.underlying4
  a4:=Tryz.isAgg4
  z4:=Tryz.sizeOf4
  v4:=Tryz.zeroValue4
  t5:=Tryz.underlying5
  a5:=Tryz.isAgg5
  z5:=Tryz.sizeOf5
  v5:=Tryz.zeroValue5
  t9:=Tryz.underlying9
  a9:=Tryz.isAgg9
  z9:=Tryz.sizeOf9
  v9:=Tryz.zeroValue9
  t46:=Tryz.underlying257
  a46:=Tryz.isAgg257
  z46:=Tryz.sizeOf257
  v46:=Tryz.zeroValue257
  t51:=Tryz.underlying236
  a51:=Tryz.isAgg236
  z51:=Tryz.sizeOf236
  v51:=Tryz.zeroValue236
  t59:=Tryz.underlying183
  a59:=Tryz.isAgg183
  z59:=Tryz.sizeOf183
  v59:=Tryz.zeroValue183
  t146:=Tryz.underlying280
  a146:=Tryz.isAgg280
  z146:=Tryz.sizeOf280
  v146:=Tryz.zeroValue280
  g1:=by kernel_rfl }
open Go.RowKit Go.Lib in
theorem Tryz.strings_Cut (s sep:ByteArray) (m:Int) (w:World) (hs:s.size<4294967281) (hm:w.cell? ⟨3,0,none⟩=some (.int .i64 m)) :
    Calls Tryz.prog 128 #[.string s,.string sep] w fun e w'=>e=.returned (.tuple #[.string ⟨(Lib.cut s.data.toList sep.data.toList).1.toArray⟩,.string ⟨(Lib.cut s.data.toList sep.data.toList).2.1.toArray⟩,.bool (Lib.cut s.data.toList sep.data.toList).2.2])/\∃ n,w'=w.drewN n:=Any.strings_Cut Tryz.lays145 s sep m w hs hm
def Tryz.lays102_ren:Go.Shelf.Ren:=⟨fun | 102=>70 | 209=>88 | 207=>154 | n=>n,fun | 9=>9 | 4=>4 | 3=>3 | n=>n,fun | n=>n⟩
theorem Tryz.lays102:Go.Proofs.Lays.n102 Tryz.prog Tryz.lays102_ren:={
  mixed:=by kernel_rfl
  f102:=Tryz.func70.trans (congrArg some (by kernel_rfl))
  f207:=Tryz.func154.trans (congrArg some (by kernel_rfl))
  f209:=Tryz.func88.trans (congrArg some (by kernel_rfl))
  t3:=Tryz.underlying3
  a3:=Tryz.isAgg3
  z3:=Tryz.sizeOf3
  v3:=Tryz.zeroValue3
  t4:=Tryz.underlying4
  a4:=Tryz.isAgg4
  z4:=Tryz.sizeOf4
  v4:=Tryz.zeroValue4
  t9:=Tryz.underlying9
  a9:=Tryz.isAgg9
  z9:=Tryz.sizeOf9
  v9:=Tryz.zeroValue9 }
open Go.RowKit Go.Lib in
theorem Tryz.strings_TrimSuffix (s p:ByteArray) (w:World) (hs:s.size<=9223372036854775807) :
    Calls Tryz.prog 70 #[.string s,.string p] w fun e w'=>e=.returned (.string ⟨(Lib.trimSuffix s.data.toList p.data.toList).toArray⟩)/\w'=w:=Any.strings_TrimSuffix Tryz.lays102 s p w hs
def Tryz.lays157_ren:Go.Shelf.Ren:=⟨fun | 157=>129 | 229=>181 | 199=>182 | 261=>208 | 311=>231 | 312=>232 | n=>n,fun | 9=>9 | 31=>60 | 3=>3 | 5=>5 | 4=>4 | 119=>214 | 0=>0 | 40=>216 | 152=>233 | 21=>21 | 154=>235 | 51=>236 | 141=>238 | 196=>265 | 193=>262 | 198=>268 | 49=>266 | 194=>263 | 201=>271 | 226=>282 | 46=>257 | 227=>283 | n=>n,fun | 0=>1 | 6=>2 | n=>n⟩
theorem Tryz.lays157:Go.Proofs.Lays.n157 Tryz.prog Tryz.lays157_ren:={
  mixed:=by kernel_rfl
  f157:=Tryz.func129.trans (congrArg some (by kernel_rfl))
  f199:=Tryz.func182.trans (congrArg some (by kernel_rfl))
  f229:=Tryz.func181.trans (congrArg some (by kernel_rfl))
  f261:=Tryz.func208.trans (congrArg some (by kernel_rfl))
  f311:=Tryz.func231.trans (congrArg some (by kernel_rfl))
  f312:=Tryz.func232.trans (congrArg some (by kernel_rfl))
  t0:=Tryz.underlying0
  a0:=Tryz.isAgg0
  z0:=Tryz.sizeOf0
  v0:=Tryz.zeroValue0
  t3:=Tryz.underlying3
  a3:=Tryz.isAgg3
  z3:=Tryz.sizeOf3
  v3:=Tryz.zeroValue3
  t4:=Tryz.underlying4
  a4:=Tryz.isAgg4
  z4:=Tryz.sizeOf4
  v4:=Tryz.zeroValue4
  t5:=Tryz.underlying5
  a5:=Tryz.isAgg5
  z5:=Tryz.sizeOf5
  v5:=Tryz.zeroValue5
  t9:=Tryz.underlying9
  a9:=Tryz.isAgg9
  z9:=Tryz.sizeOf9
  v9:=Tryz.zeroValue9
  t21:=Tryz.underlying21
  a21:=Tryz.isAgg21
  z21:=Tryz.sizeOf21
  v21:=Tryz.zeroValue21
  t31:=Tryz.underlying60
  a31:=Tryz.isAgg60
  z31:=Tryz.sizeOf60
  v31:=Tryz.zeroValue60
  t40:=Tryz.underlying216
  a40:=Tryz.isAgg216
  z40:=Tryz.sizeOf216
  v40:=Tryz.zeroValue216
  t46:=Tryz.underlying257
  a46:=Tryz.isAgg257
  z46:=Tryz.sizeOf257
  v46:=Tryz.zeroValue257
  t49:=Tryz.underlying266
  a49:=Tryz.isAgg266
  z49:=Tryz.sizeOf266
  v49:=Tryz.zeroValue266
  t51:=Tryz.underlying236
  a51:=Tryz.isAgg236
  z51:=Tryz.sizeOf236
  v51:=Tryz.zeroValue236
  t119:=Tryz.underlying214
  a119:=Tryz.isAgg214
  z119:=Tryz.sizeOf214
  t141:=Tryz.underlying238
  a141:=Tryz.isAgg238
  z141:=Tryz.sizeOf238
  v141:=Tryz.zeroValue238
  t152:=Tryz.underlying233
  a152:=Tryz.isAgg233
  z152:=Tryz.sizeOf233
  v152:=Tryz.zeroValue233
  t154:=Tryz.underlying235
  a154:=Tryz.isAgg235
  z154:=Tryz.sizeOf235
  v154:=Tryz.zeroValue235
  t193:=Tryz.underlying262
  a193:=Tryz.isAgg262
  z193:=Tryz.sizeOf262
  v193:=Tryz.zeroValue262
  t194:=Tryz.underlying263
  a194:=Tryz.isAgg263
  z194:=Tryz.sizeOf263
  v194:=Tryz.zeroValue263
  t196:=Tryz.underlying265
  a196:=Tryz.isAgg265
  z196:=Tryz.sizeOf265
  v196:=Tryz.zeroValue265
  t198:=Tryz.underlying268
  a198:=Tryz.isAgg268
  z198:=Tryz.sizeOf268
  v198:=Tryz.zeroValue268
  t201:=Tryz.underlying271
  a201:=Tryz.isAgg271
  z201:=Tryz.sizeOf271
  v201:=Tryz.zeroValue271
  t226:=Tryz.underlying282
  a226:=Tryz.isAgg282
  z226:=Tryz.sizeOf282
  v226:=Tryz.zeroValue282
  t227:=Tryz.underlying283
  a227:=Tryz.isAgg283
  z227:=Tryz.sizeOf283
  v227:=Tryz.zeroValue283
  g0:=by kernel_rfl
  g6:=by kernel_rfl }
open Go.RowKit Go.Lib in
theorem Tryz.strings_Fields (s : ByteArray) (w : World) (hs : s.size < 4294967281) (hascii : ∀ (j : Nat) b, s.data.toList[j]? = some b → b.toNat < 128) (htab : Lib.TabIs Tryz.prog w "strings.asciiSpace" .u8 Lib.asciiSpaceTab) :
    Calls Tryz.prog 129 #[.string s] w fun e w'=>
      e=.returned (.slice (some ⟨w.heap.size,0,none⟩) (Lib.fields s.data.toList).length (Lib.fields s.data.toList).length)/\w'=w.alloc (.cells ((Lib.fields s.data.toList).map fun l=>Value.string ⟨l.toArray⟩).toArray 9):=Any.strings_Fields Tryz.lays157 (by kernel_rfl) (by kernel_rfl) s w hs hascii htab
def Tryz.lays152_ren:Go.Shelf.Ren:=⟨fun | 152=>205 | 137=>87 | 119=>227 | 224=>228 | 225=>229 | 217=>153 | 266=>199 | n=>n,fun | 9=>9 | 21=>21 | 3=>3 | 4=>4 | 5=>5 | 0=>0 | 46=>257 | n=>n,fun | n=>n⟩
theorem Tryz.lays152:Go.Proofs.Lays.n152 Tryz.prog Tryz.lays152_ren:={
  mixed:=by kernel_rfl
  f119:=Tryz.func227.trans (congrArg some (by kernel_rfl))
  f137:=Tryz.func87.trans (congrArg some (by kernel_rfl))
  f152:=Tryz.func205.trans (congrArg some (by kernel_rfl))
  f217:=Tryz.func153.trans (congrArg some (by kernel_rfl))
  f224:=Tryz.func228.trans (congrArg some (by kernel_rfl))
  f225:=Tryz.func229.trans (congrArg some (by kernel_rfl))
  f266:=Tryz.func199.trans (congrArg some (by kernel_rfl))
  t0:=Tryz.underlying0
  a0:=Tryz.isAgg0
  z0:=Tryz.sizeOf0
  v0:=Tryz.zeroValue0
  t3:=Tryz.underlying3
  a3:=Tryz.isAgg3
  z3:=Tryz.sizeOf3
  v3:=Tryz.zeroValue3
  t4:=Tryz.underlying4
  a4:=Tryz.isAgg4
  z4:=Tryz.sizeOf4
  v4:=Tryz.zeroValue4
  t5:=Tryz.underlying5
  a5:=Tryz.isAgg5
  z5:=Tryz.sizeOf5
  v5:=Tryz.zeroValue5
  t9:=Tryz.underlying9
  a9:=Tryz.isAgg9
  z9:=Tryz.sizeOf9
  v9:=Tryz.zeroValue9
  t21:=Tryz.underlying21
  a21:=Tryz.isAgg21
  z21:=Tryz.sizeOf21
  v21:=Tryz.zeroValue21
  t46:=Tryz.underlying257
  a46:=Tryz.isAgg257
  z46:=Tryz.sizeOf257
  v46:=Tryz.zeroValue257 }
open Go.RowKit Go.Lib in
theorem Tryz.strings_IndexRune_ascii (s:ByteArray) (r:Int) (w:World) (h0:0<=r) (h1:r<128) :
    Calls Tryz.prog 205 #[.string s,.int .i32 r] w fun e w'=>e=.returned (.int .i64 (Lib.indexByte s.data.toList r.toNat.toUInt8))/\w'=w:=Any.strings_IndexRune_ascii Tryz.lays152 s r w h0 h1
def Tryz.lays153_ren:Go.Shelf.Ren:=⟨fun | 153=>198 | 152=>205 | 226=>226 | 227=>122 | 228=>176 | 137=>87 | 119=>227 | 224=>228 | 225=>229 | 217=>153 | 266=>199 | n=>n,fun | 9=>9 | 3=>3 | 4=>4 | 5=>5 | 21=>21 | 117=>174 | 116=>173 | 0=>0 | 46=>257 | 124=>177 | n=>n,fun | n=>n⟩
theorem Tryz.lays153:Go.Proofs.Lays.n153 Tryz.prog Tryz.lays153_ren:={
  mixed:=by kernel_rfl
  f119:=Tryz.func227.trans (congrArg some (by kernel_rfl))
  f137:=Tryz.func87.trans (congrArg some (by kernel_rfl))
  f152:=Tryz.func205.trans (congrArg some (by kernel_rfl))
  f153:=Tryz.func198.trans (congrArg some (by kernel_rfl))
  f217:=Tryz.func153.trans (congrArg some (by kernel_rfl))
  f224:=Tryz.func228.trans (congrArg some (by kernel_rfl))
  f225:=Tryz.func229.trans (congrArg some (by kernel_rfl))
  f226:=Tryz.func226.trans (congrArg some (by kernel_rfl))
  f227:=Tryz.func122.trans (congrArg some (by kernel_rfl))
  f228:=Tryz.func176.trans (congrArg some (by kernel_rfl))
  f266:=Tryz.func199.trans (congrArg some (by kernel_rfl))
  t0:=Tryz.underlying0
  a0:=Tryz.isAgg0
  z0:=Tryz.sizeOf0
  v0:=Tryz.zeroValue0
  t3:=Tryz.underlying3
  a3:=Tryz.isAgg3
  z3:=Tryz.sizeOf3
  v3:=Tryz.zeroValue3
  t4:=Tryz.underlying4
  a4:=Tryz.isAgg4
  z4:=Tryz.sizeOf4
  v4:=Tryz.zeroValue4
  t5:=Tryz.underlying5
  a5:=Tryz.isAgg5
  z5:=Tryz.sizeOf5
  v5:=Tryz.zeroValue5
  t9:=Tryz.underlying9
  a9:=Tryz.isAgg9
  z9:=Tryz.sizeOf9
  v9:=Tryz.zeroValue9
  t21:=Tryz.underlying21
  a21:=Tryz.isAgg21
  z21:=Tryz.sizeOf21
  v21:=Tryz.zeroValue21
  t46:=Tryz.underlying257
  a46:=Tryz.isAgg257
  z46:=Tryz.sizeOf257
  v46:=Tryz.zeroValue257
  t116:=Tryz.underlying173
  a116:=Tryz.isAgg173
  z116:=Tryz.sizeOf173
  t117:=Tryz.underlying174
  a117:=Tryz.isAgg174
  z117:=Tryz.sizeOf174
  v117:=Tryz.zeroValue174
  t124:=Tryz.underlying177
  a124:=Tryz.isAgg177
  z124:=Tryz.sizeOf177
  v124:=Tryz.zeroValue177 }
def Tryz.lays227_ren:Go.Shelf.Ren:=⟨fun | 227=>122 | n=>n,fun | 9=>9 | 116=>173 | 4=>4 | 0=>0 | 3=>3 | 5=>5 | n=>n,fun | n=>n⟩
theorem Tryz.lays227:Go.Proofs.Lays.n227 Tryz.prog Tryz.lays227_ren:={
  mixed:=by kernel_rfl
  f227:=Tryz.func122.trans (congrArg some (by kernel_rfl))
  t0:=Tryz.underlying0
  a0:=Tryz.isAgg0
  z0:=Tryz.sizeOf0
  v0:=Tryz.zeroValue0
  t3:=Tryz.underlying3
  a3:=Tryz.isAgg3
  z3:=Tryz.sizeOf3
  v3:=Tryz.zeroValue3
  t4:=Tryz.underlying4
  a4:=Tryz.isAgg4
  z4:=Tryz.sizeOf4
  v4:=Tryz.zeroValue4
  t5:=Tryz.underlying5
  a5:=Tryz.isAgg5
  z5:=Tryz.sizeOf5
  v5:=Tryz.zeroValue5
  t9:=Tryz.underlying9
  a9:=Tryz.isAgg9
  z9:=Tryz.sizeOf9
  v9:=Tryz.zeroValue9
  t116:=Tryz.underlying173
  a116:=Tryz.isAgg173
  z116:=Tryz.sizeOf173 }
open Go.RowKit Go.Lib in
theorem Tryz.strings_makeASCIISet (hv116:∀ w,(zeroValue 173).run Tryz.prog w=.ok (.agg (Array.replicate 256 (.bool false))) w) (chars:ByteArray) (w:World) (hs:chars.size<4294967281) (hascii:∀ (j:Nat) b,chars.data.toList[j]?=some b->b.toNat<128) :
    Calls Tryz.prog 122 #[.string chars] w fun e w'=>e=.returned (.tuple #[.agg (Lib.setCells chars.data.toList),.bool true])/\w'=w.alloc (.cells (Lib.setCells chars.data.toList) 173):=Any.strings_makeASCIISet Tryz.lays227 hv116 (by kernel_rfl) chars w hs hascii
open Go.RowKit Go.Lib in
theorem Tryz.strings_IndexAny_long (hv116:∀ w,(zeroValue 173).run Tryz.prog w=.ok (.agg (Array.replicate 256 (.bool false))) w) (s chars:ByteArray) (w:World) (h2:2<=chars.size) (h8:8<s.size) (hs:s.size<4294967281) (hcs:chars.size<4294967281) (hascii:∀ (j:Nat) b,chars.data.toList[j]?=some b->b.toNat<128) :
    Calls Tryz.prog 198 #[.string s,.string chars] w fun e w'=>e=.returned (.int .i64 (Lib.indexAny s.data.toList chars.data.toList))/\w'=((w.alloc (.cells (Lib.setCells chars.data.toList) 173)).alloc (.cells (Lib.setCells chars.data.toList) 173)):=Any.strings_IndexAny_long Tryz.lays153 hv116 (by kernel_rfl) s chars w h2 h8 hs hcs hascii
end Go.Proofs
