/-
  DERIVED: THE SHELF's CONTRACTS AT THIS DUMP,IN PLAIN WORDS (tools/lay-plain.mjs out of 'TryzSortG.lean',which tools/lay-shelf.mjs wrote): THE SAME DECLARATIONS UNDER THE SAME NAMES: 'import','namespace','open','def','theorem' AND NOTHING ELSE: no command of the shelf's: FOR A HAND-IN. Each laying: the table of numbers ('.._ren') and one theorem,a field a fact of the dump's own or the kernel's comparison;each contract: ONE APPLICATION.
-/
import Derived.Shelf.SlGeneric
import Derived.Shelf.SlSortCmp.WholeK
import Derived.Shelf.SlLaysF0
import Derived.Ground.SlsfProg
import Derived.Test.YtjnckfchgcmmpaaGreatDoorProg
namespace Go.Proofs
open Go.Shelf
def Tryz.sortGroups_ren:Go.Shelf.Ren:=⟨fun | 6=>122 | 15=>144 | 14=>143 | 28=>104 | 29=>178 | 20=>170 | 21=>171 | 22=>172 | 23=>173 | 24=>174 | 25=>175 | 26=>176 | 27=>177 | 46=>188 | 47=>189 | 48=>190 | 49=>191 | 50=>192 | 57=>203 | n=>n,fun | 22=>145 | 24=>160 | 25=>176 | 3=>3 | 39=>143 | 0=>0 | 53=>69 | 55=>217 | 4=>4 | 46=>211 | 45=>210 | 50=>201 | 5=>5 | 9=>9 | 66=>223 | 70=>227 | 76=>234 | 77=>235 | n=>n,fun | n=>n⟩
theorem Tryz.sortGroups:Go.Proofs.SlLaysF0.n6 Tryz.prog Tryz.sortGroups_ren:={
  mixed:=by kernel_rfl
  f6:=⟨Tryz.f122.name,by decide,Tryz.func122.trans (congrArg some (by kernel_rfl))⟩
  f14:=⟨Tryz.f143.name,by decide,Tryz.func143.trans (congrArg some (by kernel_rfl))⟩
  f15:=Tryz.func144.trans (congrArg some (by kernel_rfl))
  f20:=⟨Tryz.f170.name,by decide,Tryz.func170.trans (congrArg some (by kernel_rfl))⟩
  f21:=⟨Tryz.f171.name,by decide,Tryz.func171.trans (congrArg some (by kernel_rfl))⟩
  f22:=⟨Tryz.f172.name,by decide,Tryz.func172.trans (congrArg some (by kernel_rfl))⟩
  f23:=⟨Tryz.f173.name,by decide,Tryz.func173.trans (congrArg some (by kernel_rfl))⟩
  f24:=⟨Tryz.f174.name,by decide,Tryz.func174.trans (congrArg some (by kernel_rfl))⟩
  f25:=⟨Tryz.f175.name,by decide,Tryz.func175.trans (congrArg some (by kernel_rfl))⟩
  f26:=⟨Tryz.f176.name,by decide,Tryz.func176.trans (congrArg some (by kernel_rfl))⟩
  f27:=⟨Tryz.f177.name,by decide,Tryz.func177.trans (congrArg some (by kernel_rfl))⟩
  f28:=Tryz.func104.trans (congrArg some (by kernel_rfl))
  f29:=Tryz.func178.trans (congrArg some (by kernel_rfl))
  f46:=⟨Tryz.f188.name,by decide,Tryz.func188.trans (congrArg some (by kernel_rfl))⟩
  f47:=Tryz.func189.trans (congrArg some (by kernel_rfl))
  f48:=Tryz.func190.trans (congrArg some (by kernel_rfl))
  f49:=⟨Tryz.f191.name,by decide,Tryz.func191.trans (congrArg some (by kernel_rfl))⟩
  f50:=⟨Tryz.f192.name,by decide,Tryz.func192.trans (congrArg some (by kernel_rfl))⟩
  f57:=⟨Tryz.f203.name,by decide,Tryz.func203.trans (congrArg some (by kernel_rfl))⟩
  t0:=Tryz.underlying0
  a0:=Tryz.isAgg0
  z0:=Tryz.sizeOf0
  v0:=Tryz.zeroValue0
  t3:=Tryz.underlying3
  a3:=Tryz.isAgg3
  z3:=Tryz.sizeOf3
  v3:=Tryz.zeroValue3
  t4:=Tryz.underlying4
  a4:=Tryz.isAgg4
  z4:=Tryz.sizeOf4
  v4:=Tryz.zeroValue4
  t5:=Tryz.underlying5
  a5:=Tryz.isAgg5
  z5:=Tryz.sizeOf5
  v5:=Tryz.zeroValue5
  t9:=Tryz.underlying9
  a9:=Tryz.isAgg9
  z9:=Tryz.sizeOf9
  v9:=Tryz.zeroValue9
  t22:=Tryz.underlying145
  a22:=Tryz.isAgg145
  z22:=Tryz.sizeOf145
  v22:=Tryz.zeroValue145
  t25:=Tryz.underlying176
  a25:=Tryz.isAgg176
  z25:=Tryz.sizeOf176
  v25:=Tryz.zeroValue176
  t39:=Tryz.underlying143
  a39:=Tryz.isAgg143
  z39:=Tryz.sizeOf143
  v39:=Tryz.zeroValue143
  t45:=Tryz.underlying210
  a45:=Tryz.isAgg210
  z45:=Tryz.sizeOf210
  v45:=Tryz.zeroValue210
  t46:=Tryz.underlying211
  a46:=Tryz.isAgg211
  z46:=Tryz.sizeOf211
  v46:=Tryz.zeroValue211
  t50:=Tryz.underlying201
  a50:=Tryz.isAgg201
  z50:=Tryz.sizeOf201
  v50:=Tryz.zeroValue201
  t53:=Tryz.underlying69
  a53:=Tryz.isAgg69
  z53:=Tryz.sizeOf69
  v53:=Tryz.zeroValue69
  t55:=Tryz.underlying217
  a55:=Tryz.isAgg217
  z55:=Tryz.sizeOf217
  v55:=Tryz.zeroValue217
  t66:=Tryz.underlying223
  a66:=Tryz.isAgg223
  z66:=Tryz.sizeOf223
  v66:=Tryz.zeroValue223
  t70:=Tryz.underlying227
  a70:=Tryz.isAgg227
  z70:=Tryz.sizeOf227
  v70:=Tryz.zeroValue227
  t76:=Tryz.underlying234
  a76:=Tryz.isAgg234
  z76:=Tryz.sizeOf234
  v76:=Tryz.zeroValue234
  t77:=Tryz.underlying235
  a77:=Tryz.isAgg235
  z77:=Tryz.sizeOf235
  v77:=Tryz.zeroValue235 }
end Go.Proofs
