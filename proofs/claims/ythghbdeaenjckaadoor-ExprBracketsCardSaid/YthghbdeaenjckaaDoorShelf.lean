import Derived.Shelf.Small.Bits
import Derived.Shelf.Small.Strs
import Derived.Shelf.Strconv.Itoa0
import Derived.Shelf.Strconv.Itoa1
import Derived.Shelf.LaysM
import Derived.Shelf.Strconv.Itoa2
import Derived.Shelf.Strconv.Itoa3
import Derived.Shelf.Strconv.Itoa4
import Derived.Shelf.Strconv.Clone
import Derived.Shelf.Strings.Search1
import Derived.Shelf.Sort.Plain
import Derived.Shelf.Slices.CompactS
import Derived.Shelf.Slices.Cells
import Derived.Shelf.Slices.In.SortNone
import Derived.Test.YthghbdeaenjckaaDoorProg
namespace Go.Proofs
open Go.Shelf
def Tryd.lays137_ren:Go.Shelf.Ren:=⟨fun | 137=>81 | 217=>91 | 266=>100 | n=>n,fun | 9=>9 | 5=>5 | 3=>3 | n=>n,fun | n=>n⟩
theorem Tryd.lays137:Go.Proofs.Lays.n137 Tryd.prog Tryd.lays137_ren:={
 mixed:=by kernel_rfl
 f137:=Tryd.func81.trans (congrArg some (by kernel_rfl))
 f217:=Tryd.func91.trans (congrArg some (by kernel_rfl))
 f266:=Tryd.func100.trans (congrArg some (by kernel_rfl))
 t3:=Tryd.underlying3
 a3:=Tryd.isAgg3
 z3:=Tryd.sizeOf3
 v3:=Tryd.zeroValue3
 t5:=Tryd.underlying5
 a5:=Tryd.isAgg5
 z5:=Tryd.sizeOf5
 v5:=Tryd.zeroValue5
 t9:=Tryd.underlying9
 a9:=Tryd.isAgg9
 z9:=Tryd.sizeOf9
 v9:=Tryd.zeroValue9 }
open Go.RowKit in
theorem Tryd.strings_IndexByte (s:ByteArray) (c:Int) (w:World):
 Calls Tryd.prog 81 #[.string s,.int .u8 c] w fun e w'=>e= .returned (.int .i64 (Lib.indexByte s.data.toList c.toNat.toUInt8))∧w'=w:=Any.strings_IndexByte Tryd.lays137 s c w
def Tryd.laysM173_ren:Go.Shelf.Ren:=⟨fun | 173=>67 | 246=>79 | 283=>87 | 284=>88 | 285=>89 | 286=>90 | 129=>61 | 317=>96 | 318=>97 | 319=>98 | 320=>99 | 337=>101 | 338=>102 | n=>n,fun | 2=>2 | 3=>3 | 9=>9 | 4=>4 | 171=>122 | 0=>0 | 53=>74 | 37=>69 | 5=>5 | 173=>124 | 212=>128 | 51=>101 | 20=>20 | 213=>129 | 46=>73 | 232=>131 | 233=>132 | n=>n,fun | 17=>0 | 18=>2 | 19=>3 | n=>n⟩
theorem Tryd.laysM173:Go.Proofs.LaysM.n173 Tryd.prog Tryd.laysM173_ren:={
 mixed:=by kernel_rfl
 f129:=Tryd.func61.trans (congrArg some (by kernel_rfl))
 f173:=Tryd.func67.trans (congrArg some (by kernel_rfl))
 f246:=Tryd.func79.trans (congrArg some (by kernel_rfl))
 f283:=Tryd.func87.trans (congrArg some (by kernel_rfl))
 f284:=Tryd.func88.trans (congrArg some (by kernel_rfl))
 f285:=Tryd.func89.trans (congrArg some (by kernel_rfl))
 f286:=Tryd.func90.trans (congrArg some (by kernel_rfl))
 f317:=Tryd.func96.trans (congrArg some (by kernel_rfl))
 f318:=Tryd.func97.trans (congrArg some (by kernel_rfl))
 f319:=Tryd.func98.trans (congrArg some (by kernel_rfl))
 f320:=Tryd.func99.trans (congrArg some (by kernel_rfl))
 f337:=Tryd.func101.trans (congrArg some (by kernel_rfl))
 f338:=Tryd.func102.trans (congrArg some (by kernel_rfl))
 t0:=Tryd.underlying0
 a0:=Tryd.isAgg0
 z0:=Tryd.sizeOf0
 v0:=Tryd.zeroValue0
 t2:=Tryd.underlying2
 a2:=Tryd.isAgg2
 z2:=Tryd.sizeOf2
 v2:=Tryd.zeroValue2
 t3:=Tryd.underlying3
 a3:=Tryd.isAgg3
 z3:=Tryd.sizeOf3
 v3:=Tryd.zeroValue3
 t4:=Tryd.underlying4
 a4:=Tryd.isAgg4
 z4:=Tryd.sizeOf4
 v4:=Tryd.zeroValue4
 t5:=Tryd.underlying5
 a5:=Tryd.isAgg5
 z5:=Tryd.sizeOf5
 v5:=Tryd.zeroValue5
 t9:=Tryd.underlying9
 a9:=Tryd.isAgg9
 z9:=Tryd.sizeOf9
 v9:=Tryd.zeroValue9
 t20:=Tryd.underlying20
 a20:=Tryd.isAgg20
 z20:=Tryd.sizeOf20
 v20:=Tryd.zeroValue20
 t37:=Tryd.underlying69
 a37:=Tryd.isAgg69
 z37:=Tryd.sizeOf69
 v37:=Tryd.zeroValue69
 t46:=Tryd.underlying73
 a46:=Tryd.isAgg73
 z46:=Tryd.sizeOf73
 v46:=Tryd.zeroValue73
 t51:=Tryd.underlying101
 a51:=Tryd.isAgg101
 z51:=Tryd.sizeOf101
 v51:=Tryd.zeroValue101
 t53:=Tryd.underlying74
 a53:=Tryd.isAgg74
 z53:=Tryd.sizeOf74
 v53:=Tryd.zeroValue74
 t171:=Tryd.underlying122
 a171:=Tryd.isAgg122
 z171:=Tryd.sizeOf122
 v171:=Tryd.zeroValue122
 t173:=Tryd.underlying124
 a173:=Tryd.isAgg124
 z173:=Tryd.sizeOf124
 v173:=Tryd.zeroValue124
 t212:=Tryd.underlying128
 a212:=Tryd.isAgg128
 z212:=Tryd.sizeOf128
 v212:=Tryd.zeroValue128
 t213:=Tryd.underlying129
 a213:=Tryd.isAgg129
 z213:=Tryd.sizeOf129
 t232:=Tryd.underlying131
 a232:=Tryd.isAgg131
 z232:=Tryd.sizeOf131
 v232:=Tryd.zeroValue131
 t233:=Tryd.underlying132
 a233:=Tryd.isAgg132
 z233:=Tryd.sizeOf132
 v233:=Tryd.zeroValue132
 g17:=by kernel_rfl
 g18:=by kernel_rfl
 g19:=by kernel_rfl
 i0:=by kernel_rfl
 i2:=by kernel_rfl
 i3:=by kernel_rfl
 i4:=by kernel_rfl
 i5:=by kernel_rfl
 i9:=by kernel_rfl
 i20:=by kernel_rfl
 i37:=by kernel_rfl
 i46:=by kernel_rfl
 i51:=by kernel_rfl
 i53:=by kernel_rfl
 i171:=by kernel_rfl
 i173:=by kernel_rfl
 i212:=by kernel_rfl
 i232:=by kernel_rfl
 i233:=by kernel_rfl
 m17:=by kernel_rfl
 m18:=by kernel_rfl
 m19:=by kernel_rfl }
open Go.RowKit Go.Sort Go.Lib in
theorem Tryd.strconv_FormatInt_10 (n:Int) (h0: -9223372036854775808≤n) (h1:n≤9223372036854775807) (w:World) (htab:Lib.TabIs Tryd.prog w "internal/strconv.uint64pow10" .u64 Lib.pow10Tab):
 Calls Tryd.prog 67 #[.int .i64 n,.int .i64 10] w fun e w'=>e= .returned (.string ⟨(Lib.itoa n).toArray⟩)∧∃ k os,w'=grow (w.drewN k) os:=Any.strconv_FormatInt_10 Tryd.laysM173 n h0 h1 w htab
def Tryd.laysM316_ren:Go.Shelf.Ren:=⟨fun | 316=>34 | n=>n,fun | 9=>9 | 3=>3 | 4=>4 | 37=>69 | 0=>0 | 127=>90 | 5=>5 | n=>n,fun | n=>n⟩
theorem Tryd.laysM316:Go.Proofs.LaysM.n316 Tryd.prog Tryd.laysM316_ren:={
 mixed:=by kernel_rfl
 f316:=Tryd.func34.trans (congrArg some (by kernel_rfl))
 t0:=Tryd.underlying0
 a0:=Tryd.isAgg0
 z0:=Tryd.sizeOf0
 v0:=Tryd.zeroValue0
 t3:=Tryd.underlying3
 a3:=Tryd.isAgg3
 z3:=Tryd.sizeOf3
 v3:=Tryd.zeroValue3
 t4:=Tryd.underlying4
 a4:=Tryd.isAgg4
 z4:=Tryd.sizeOf4
 v4:=Tryd.zeroValue4
 t9:=Tryd.underlying9
 a9:=Tryd.isAgg9
 z9:=Tryd.sizeOf9
 v9:=Tryd.zeroValue9
 t37:=Tryd.underlying69
 a37:=Tryd.isAgg69
 z37:=Tryd.sizeOf69
 v37:=Tryd.zeroValue69
 t127:=Tryd.underlying90
 a127:=Tryd.isAgg90
 z127:=Tryd.sizeOf90
 v127:=Tryd.zeroValue90
 t5:=Tryd.underlying5
 a5:=Tryd.isAgg5
 z5:=Tryd.sizeOf5
 v5:=Tryd.zeroValue5
 i0:=by kernel_rfl
 i3:=by kernel_rfl
 i4:=by kernel_rfl
 i5:=by kernel_rfl
 i9:=by kernel_rfl
 i37:=by kernel_rfl
 i127:=by kernel_rfl }
open Go.RowKit in
theorem Tryd.stringslite_Clone (s:ByteArray) (w:World) (hlim:s.size≤281474976710656):
 Calls Tryd.prog 34 #[.string s] w fun e w'=>e= .returned (.string s)∧Below w.heap.size w w':=Any.stringslite_Clone Tryd.laysM316 s w hlim
def Tryd.lays190_ren:Go.Shelf.Ren:=⟨fun | 190=>16 | 125=>36 | 258=>35 | 128=>60 | 129=>61 | 302=>51 | 303=>52 | 304=>53 | 305=>54 | 306=>55 | 307=>56 | 308=>57 | 309=>58 | 310=>59 | 333=>69 | 329=>70 | 330=>71 | 334=>72 | 335=>73 | 336=>74 | 344=>82 | n=>n,fun | 31=>36 | 9=>9 | 3=>3 | 46=>73 | 0=>0 | 51=>101 | 53=>74 | 4=>4 | 183=>93 | 182=>92 | 131=>98 | 5=>5 | 218=>109 | 222=>113 | 228=>117 | 229=>118 | n=>n,fun | n=>n⟩
theorem Tryd.lays190:Go.Proofs.Lays.n190 Tryd.prog Tryd.lays190_ren:={
 mixed:=by kernel_rfl
 f125:=Tryd.func36.trans (congrArg some (by kernel_rfl))
 f128:=Tryd.func60.trans (congrArg some (by kernel_rfl))
 f129:=Tryd.func61.trans (congrArg some (by kernel_rfl))
 f190:=Tryd.func16.trans (congrArg some (by kernel_rfl))
 f258:=Tryd.func35.trans (congrArg some (by kernel_rfl))
 f302:=Tryd.func51.trans (congrArg some (by kernel_rfl))
 f303:=Tryd.func52.trans (congrArg some (by kernel_rfl))
 f304:=Tryd.func53.trans (congrArg some (by kernel_rfl))
 f305:=Tryd.func54.trans (congrArg some (by kernel_rfl))
 f306:=Tryd.func55.trans (congrArg some (by kernel_rfl))
 f307:=Tryd.func56.trans (congrArg some (by kernel_rfl))
 f308:=Tryd.func57.trans (congrArg some (by kernel_rfl))
 f309:=Tryd.func58.trans (congrArg some (by kernel_rfl))
 f310:=Tryd.func59.trans (congrArg some (by kernel_rfl))
 f329:=Tryd.func70.trans (congrArg some (by kernel_rfl))
 f330:=Tryd.func71.trans (congrArg some (by kernel_rfl))
 f333:=Tryd.func69.trans (congrArg some (by kernel_rfl))
 f334:=Tryd.func72.trans (congrArg some (by kernel_rfl))
 f335:=Tryd.func73.trans (congrArg some (by kernel_rfl))
 f336:=Tryd.func74.trans (congrArg some (by kernel_rfl))
 f344:=Tryd.func82.trans (congrArg some (by kernel_rfl))
 t0:=Tryd.underlying0
 a0:=Tryd.isAgg0
 z0:=Tryd.sizeOf0
 v0:=Tryd.zeroValue0
 t3:=Tryd.underlying3
 a3:=Tryd.isAgg3
 z3:=Tryd.sizeOf3
 v3:=Tryd.zeroValue3
 t4:=Tryd.underlying4
 a4:=Tryd.isAgg4
 z4:=Tryd.sizeOf4
 v4:=Tryd.zeroValue4
 t5:=Tryd.underlying5
 a5:=Tryd.isAgg5
 z5:=Tryd.sizeOf5
 v5:=Tryd.zeroValue5
 t9:=Tryd.underlying9
 a9:=Tryd.isAgg9
 z9:=Tryd.sizeOf9
 v9:=Tryd.zeroValue9
 t31:=Tryd.underlying36
 a31:=Tryd.isAgg36
 z31:=Tryd.sizeOf36
 v31:=Tryd.zeroValue36
 t46:=Tryd.underlying73
 a46:=Tryd.isAgg73
 z46:=Tryd.sizeOf73
 v46:=Tryd.zeroValue73
 t51:=Tryd.underlying101
 a51:=Tryd.isAgg101
 z51:=Tryd.sizeOf101
 v51:=Tryd.zeroValue101
 t53:=Tryd.underlying74
 a53:=Tryd.isAgg74
 z53:=Tryd.sizeOf74
 v53:=Tryd.zeroValue74
 t131:=Tryd.underlying98
 a131:=Tryd.isAgg98
 z131:=Tryd.sizeOf98
 v131:=Tryd.zeroValue98
 t182:=Tryd.underlying92
 a182:=Tryd.isAgg92
 z182:=Tryd.sizeOf92
 v182:=Tryd.zeroValue92
 t183:=Tryd.underlying93
 a183:=Tryd.isAgg93
 z183:=Tryd.sizeOf93
 v183:=Tryd.zeroValue93
 t218:=Tryd.underlying109
 a218:=Tryd.isAgg109
 z218:=Tryd.sizeOf109
 v218:=Tryd.zeroValue109
 t222:=Tryd.underlying113
 a222:=Tryd.isAgg113
 z222:=Tryd.sizeOf113
 v222:=Tryd.zeroValue113
 t228:=Tryd.underlying117
 a228:=Tryd.isAgg117
 z228:=Tryd.sizeOf117
 v228:=Tryd.zeroValue117
 t229:=Tryd.underlying118
 a229:=Tryd.isAgg118
 z229:=Tryd.sizeOf118
 v229:=Tryd.zeroValue118 }
open Go.Sort Go.RowKit in
theorem Tryd.slices_Sort_string (blk off cap:Nat) (ss:List (List UInt8)) (w:World) (hH:Holds encStr w blk off ss.toArray) (hblk:blk<w.heap.size) (hsz:ss.length<4611686018427387904):
 Calls Tryd.prog 16 #[.slice (some ⟨blk,off,none⟩) ss.length cap] w fun e w'=>
  e= .returned (.tuple #[])∧∃ n os,w'=grow (putRow encStr (Sort.ahead w n) blk off (ss.mergeSort fun x y=>decide (x≤y)).toArray) os:=Any.slices_Sort_string Tryd.lays190 blk off cap ss w hH hblk hsz
def Tryd.lays194_ren:Go.Shelf.Ren:=⟨fun | 194=>17 | n=>n,fun | 31=>36 | 9=>9 | 3=>3 | 4=>4 | 0=>0 | n=>n,fun | n=>n⟩
theorem Tryd.lays194:Go.Proofs.Lays.n194 Tryd.prog Tryd.lays194_ren:={
 mixed:=by kernel_rfl
 f194:=Tryd.func17.trans (congrArg some (by kernel_rfl))
 t0:=Tryd.underlying0
 a0:=Tryd.isAgg0
 z0:=Tryd.sizeOf0
 v0:=Tryd.zeroValue0
 t3:=Tryd.underlying3
 a3:=Tryd.isAgg3
 z3:=Tryd.sizeOf3
 v3:=Tryd.zeroValue3
 t4:=Tryd.underlying4
 a4:=Tryd.isAgg4
 z4:=Tryd.sizeOf4
 v4:=Tryd.zeroValue4
 t9:=Tryd.underlying9
 a9:=Tryd.isAgg9
 z9:=Tryd.sizeOf9
 v9:=Tryd.zeroValue9
 t31:=Tryd.underlying36
 a31:=Tryd.isAgg36
 z31:=Tryd.sizeOf36
 v31:=Tryd.zeroValue36 }
open Go.RowKit Go.Lib Go.Sort in
theorem Tryd.slices_Compact_string (blk off cap:Nat) (zs:List (List UInt8)) (w:World) (hH:Holds encStr w blk off zs.toArray) (hsz:zs.length≤9223372036854775807) (hcap:zs.length≤cap):
 Calls Tryd.prog 17 #[.slice (some ⟨blk,off,none⟩) zs.length cap] w fun e w'=>e= .returned (.slice (some ⟨blk,off,none⟩) (Lib.compact zs).length cap)∧∃ q,w'=putRow encStr (Sort.ahead w q) blk off (Lib.compact zs++List.replicate (zs.length - (Lib.compact zs).length) []).toArray:=Any.slices_Compact_string Tryd.lays194 blk off cap zs w hH hsz hcap
open Go.RowKit Go.Lib Go.Sort in
theorem Tryd.slices_Compact_string_empty (a:Option Addr) (cap:Nat) (w:World):
 Calls Tryd.prog 17 #[.slice a 0 cap] w fun e w'=>e= .returned (.slice a 0 cap)∧w'=w:=Any.slices_Compact_string_empty Tryd.lays194 a cap w
open Go.RowKit Go.Sort in
theorem Tryd.slices_Sort_string_none (p:Option Addr) (cap:Nat) (w:World):
 Calls Tryd.prog 16 #[.slice p 0 cap] w fun e w'=>e= .returned (.tuple #[])∧w'=w:=Any.slices_Sort_string_none Tryd.lays190 p cap w
end Go.Proofs
