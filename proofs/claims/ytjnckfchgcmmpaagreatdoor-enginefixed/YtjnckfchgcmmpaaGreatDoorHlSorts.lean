/-
  DERIVED: THE SHELF's CONTRACTS AT THIS DUMP,IN PLAIN WORDS (tools/lay-plain.mjs out of 'TryzSorts.lean',which tools/lay-shelf.mjs wrote): THE SAME DECLARATIONS UNDER THE SAME NAMES: 'import','namespace','open','def','theorem' AND NOTHING ELSE: no command of the shelf's: FOR A HAND-IN. Each laying: the table of numbers ('.._ren') and one theorem,a field a fact of the dump's own or the kernel's comparison;each contract: ONE APPLICATION.
-/
import Derived.Shelf.Sort.Plain
import Derived.Ground.Names2Prog
import Derived.Shelf.Slices.CompactI
import Derived.Test.YtjnckfchgcmmpaaGreatDoorProg
namespace Go.Proofs
open Go.Shelf
def Tryz.lays189_ren:Go.Shelf.Ren:=⟨fun | 189=>145 | 125=>144 | 257=>179 | 128=>104 | 129=>178 | 294=>193 | 295=>194 | 296=>195 | 297=>196 | 298=>197 | 299=>198 | 216=>199 | 300=>200 | 301=>201 | 328=>204 | 329=>189 | 330=>190 | 331=>205 | 332=>206 | 215=>207 | 343=>208 | n=>n,fun | 28=>27 | 3=>3 | 46=>143 | 0=>0 | 51=>69 | 53=>217 | 4=>4 | 183=>211 | 182=>210 | 131=>201 | 5=>5 | 9=>9 | 218=>223 | 222=>227 | 228=>234 | 229=>235 | n=>n,fun | n=>n⟩
theorem Tryz.lays189:Go.Proofs.Lays.n189 Tryz.prog Tryz.lays189_ren:={
  mixed:=by kernel_rfl
  f125:=Tryz.func144.trans (congrArg some (by kernel_rfl))
  f128:=Tryz.func104.trans (congrArg some (by kernel_rfl))
  f129:=Tryz.func178.trans (congrArg some (by kernel_rfl))
  f189:=Tryz.func145.trans (congrArg some (by kernel_rfl))
  f215:=Tryz.func207.trans (congrArg some (by kernel_rfl))
  f216:=Tryz.func199.trans (congrArg some (by kernel_rfl))
  f257:=Tryz.func179.trans (congrArg some (by kernel_rfl))
  f294:=Tryz.func193.trans (congrArg some (by kernel_rfl))
  f295:=Tryz.func194.trans (congrArg some (by kernel_rfl))
  f296:=Tryz.func195.trans (congrArg some (by kernel_rfl))
  f297:=Tryz.func196.trans (congrArg some (by kernel_rfl))
  f298:=Tryz.func197.trans (congrArg some (by kernel_rfl))
  f299:=Tryz.func198.trans (congrArg some (by kernel_rfl))
  f300:=Tryz.func200.trans (congrArg some (by kernel_rfl))
  f301:=Tryz.func201.trans (congrArg some (by kernel_rfl))
  f328:=Tryz.func204.trans (congrArg some (by kernel_rfl))
  f329:=Tryz.func189.trans (congrArg some (by kernel_rfl))
  f330:=Tryz.func190.trans (congrArg some (by kernel_rfl))
  f331:=Tryz.func205.trans (congrArg some (by kernel_rfl))
  f332:=Tryz.func206.trans (congrArg some (by kernel_rfl))
  f343:=Tryz.func208.trans (congrArg some (by kernel_rfl))
  t0:=Tryz.underlying0
  a0:=Tryz.isAgg0
  z0:=Tryz.sizeOf0
  v0:=Tryz.zeroValue0
  t3:=Tryz.underlying3
  a3:=Tryz.isAgg3
  z3:=Tryz.sizeOf3
  v3:=Tryz.zeroValue3
  t4:=Tryz.underlying4
  a4:=Tryz.isAgg4
  z4:=Tryz.sizeOf4
  v4:=Tryz.zeroValue4
  t5:=Tryz.underlying5
  a5:=Tryz.isAgg5
  z5:=Tryz.sizeOf5
  v5:=Tryz.zeroValue5
  t9:=Tryz.underlying9
  a9:=Tryz.isAgg9
  z9:=Tryz.sizeOf9
  v9:=Tryz.zeroValue9
  t28:=Tryz.underlying27
  a28:=Tryz.isAgg27
  z28:=Tryz.sizeOf27
  v28:=Tryz.zeroValue27
  t46:=Tryz.underlying143
  a46:=Tryz.isAgg143
  z46:=Tryz.sizeOf143
  v46:=Tryz.zeroValue143
  t51:=Tryz.underlying69
  a51:=Tryz.isAgg69
  z51:=Tryz.sizeOf69
  v51:=Tryz.zeroValue69
  t53:=Tryz.underlying217
  a53:=Tryz.isAgg217
  z53:=Tryz.sizeOf217
  v53:=Tryz.zeroValue217
  t131:=Tryz.underlying201
  a131:=Tryz.isAgg201
  z131:=Tryz.sizeOf201
  v131:=Tryz.zeroValue201
  t182:=Tryz.underlying210
  a182:=Tryz.isAgg210
  z182:=Tryz.sizeOf210
  v182:=Tryz.zeroValue210
  t183:=Tryz.underlying211
  a183:=Tryz.isAgg211
  z183:=Tryz.sizeOf211
  v183:=Tryz.zeroValue211
  t218:=Tryz.underlying223
  a218:=Tryz.isAgg223
  z218:=Tryz.sizeOf223
  v218:=Tryz.zeroValue223
  t222:=Tryz.underlying227
  a222:=Tryz.isAgg227
  z222:=Tryz.sizeOf227
  v222:=Tryz.zeroValue227
  t228:=Tryz.underlying234
  a228:=Tryz.isAgg234
  z228:=Tryz.sizeOf234
  v228:=Tryz.zeroValue234
  t229:=Tryz.underlying235
  a229:=Tryz.isAgg235
  z229:=Tryz.sizeOf235
  v229:=Tryz.zeroValue235 }
open Go.Sort Go.RowKit in
theorem Tryz.slices_Sort_int (blk off cap:Nat) (zs:List Int) (w:World) (hH:Holds (Value.int .i64) w blk off zs.toArray) (hblk:blk<w.heap.size) (hsz:zs.length<4611686018427387904) :
    Calls Tryz.prog 145 #[.slice (some ⟨blk,off,none⟩) zs.length cap] w fun e w'=>
      e=.returned (.tuple #[])/\∃ n os,w'=grow (putRow (Value.int .i64) (Sort.ahead w n) blk off (zs.mergeSort fun x y=>decide (x<=y)).toArray) os:=Any.slices_Sort_int Tryz.lays189 blk off cap zs w hH hblk hsz
def Tryz.laysNm220_ren:Go.Shelf.Ren:=⟨fun | 20=>146 | n=>n,fun | 22=>27 | 3=>3 | 4=>4 | 0=>0 | n=>n,fun | n=>n⟩
theorem Tryz.laysNm220:Go.Proofs.Lays2.n20 Tryz.prog Tryz.laysNm220_ren:={
  mixed:=by kernel_rfl
  f20:=Tryz.func146.trans (congrArg some (by kernel_rfl))
  t0:=Tryz.underlying0
  a0:=Tryz.isAgg0
  z0:=Tryz.sizeOf0
  v0:=Tryz.zeroValue0
  t3:=Tryz.underlying3
  a3:=Tryz.isAgg3
  z3:=Tryz.sizeOf3
  v3:=Tryz.zeroValue3
  t4:=Tryz.underlying4
  a4:=Tryz.isAgg4
  z4:=Tryz.sizeOf4
  v4:=Tryz.zeroValue4
  t22:=Tryz.underlying27
  a22:=Tryz.isAgg27
  z22:=Tryz.sizeOf27
  v22:=Tryz.zeroValue27
  i3:=by kernel_rfl }
open Go.RowKit Go.Lib Go.Sort in
theorem Tryz.slices_Compact_int_arr (blk off cap:Nat) (d:Array Int) (w:World) (hH:Holds encI w blk off d) (hsz:d.size<=9223372036854775807) (hcap:d.size<=cap) :
    Calls Tryz.prog 146 #[.slice (some ⟨blk,off,none⟩) d.size cap] w fun e w'=>e=.returned (.slice (some ⟨blk,off,none⟩) (compactUpTo d d.size).length cap)/\∃ q,w'=putRow encI (Sort.ahead w q) blk off (compactUpTo d d.size++List.replicate (d.size-(compactUpTo d d.size).length) 0).toArray:=Any.slices_Compact_int_arr Tryz.laysNm220 blk off cap d w hH hsz hcap
open Go.RowKit Go.Lib Go.Sort in
theorem Tryz.slices_Compact_int (blk off cap:Nat) (zs:List Int) (w:World) (hH:Holds (Value.int .i64) w blk off zs.toArray) (hsz:zs.length<=9223372036854775807) (hcap:zs.length<=cap) :
    Calls Tryz.prog 146 #[.slice (some ⟨blk,off,none⟩) zs.length cap] w fun e w'=>e=.returned (.slice (some ⟨blk,off,none⟩) (Lib.compact zs).length cap)/\∃ q,w'=putRow (Value.int .i64) (Sort.ahead w q) blk off (Lib.compact zs++List.replicate (zs.length-(Lib.compact zs).length) 0).toArray:=Any.slices_Compact_int Tryz.laysNm220 blk off cap zs w hH hsz hcap
open Go.RowKit Go.Lib Go.Sort in
theorem Tryz.slices_Compact_int_empty (a:Option Addr) (cap:Nat) (w:World) :
    Calls Tryz.prog 146 #[.slice a 0 cap] w fun e w'=>e=.returned (.slice a 0 cap)/\w'=w:=Any.slices_Compact_int_empty Tryz.laysNm220 a cap w
end Go.Proofs
