import Derived.Shelf.Small.Strs
import Derived.Shelf.Small.Wraps
import Derived.Shelf.Strconv.Itoa0
import Derived.Shelf.Strconv.Itoa1
import Derived.Shelf.LaysM
import Derived.Shelf.Strconv.Itoa2
import Derived.Shelf.Strconv.Itoa3
import Derived.Shelf.Strconv.Itoa4
import Derived.Shelf.Strconv.ParseIntEmpty
import Derived.Shelf.Strconv.Clone
import Derived.Shelf.Strconv.SyntaxError
import Derived.Shelf.LaysC
import Derived.Shelf.Strconv.ToError
import Derived.Shelf.Strconv.Lower
import Derived.Shelf.Strconv.ParseUint10
import Derived.Shelf.Strconv.ParseUint10Empty
import Derived.Shelf.Strconv.ParseUint10Any
import Derived.Shelf.Strconv.ParseInt10
import Derived.Shelf.Strconv.RangeError
import Derived.Shelf.Strconv.ToErrorRange
import Derived.Shelf.Strconv.ParseUintEmpty
import Derived.Shelf.Strconv.ParseUint10b64
import Derived.Shelf.Strconv.ParseUint10b32
import Derived.Shelf.Strconv.ParseUint10b16
import Derived.Shelf.Strconv.ParseUint10b8
import Derived.Shelf.Strconv.ParseUint10At
import Derived.Shelf.Strconv.ParseInt10At64
import Derived.Shelf.Strconv.ParseInt10At32
import Derived.Shelf.Strconv.ParseInt10At16
import Derived.Shelf.Strconv.ParseInt10At8
import Derived.Shelf.Strconv.ParseInt10All
import Derived.Shelf.Strconv.ParseIntPublic10
import Derived.Shelf.Strconv.ErrVarParseInt
import Derived.Shelf.Strings.Search1
import Derived.Shelf.Strings.Prefix
import Derived.Test.YtmmmleoeokaaeaaDoorProg
namespace Go.Proofs
open Go.Shelf
def Tryd.lays137_ren:Go.Shelf.Ren:=⟨fun | 137=>62 | 217=>72 | 266=>89 | n=>n,fun | 9=>9 | 5=>5 | 3=>3 | n=>n,fun | n=>n⟩
theorem Tryd.lays137:Go.Proofs.Lays.n137 Tryd.prog Tryd.lays137_ren:={
 mixed:=by kernel_rfl
 f137:=Tryd.func62.trans (congrArg some (by kernel_rfl))
 f217:=Tryd.func72.trans (congrArg some (by kernel_rfl))
 f266:=Tryd.func89.trans (congrArg some (by kernel_rfl))
 t3:=Tryd.underlying3
 a3:=Tryd.isAgg3
 z3:=Tryd.sizeOf3
 v3:=Tryd.zeroValue3
 t5:=Tryd.underlying5
 a5:=Tryd.isAgg5
 z5:=Tryd.sizeOf5
 v5:=Tryd.zeroValue5
 t9:=Tryd.underlying9
 a9:=Tryd.isAgg9
 z9:=Tryd.sizeOf9
 v9:=Tryd.zeroValue9 }
open Go.RowKit in
theorem Tryd.strings_IndexByte (s:ByteArray) (c:Int) (w:World):
 Calls Tryd.prog 62 #[.string s,.int .u8 c] w fun e w'=>e= .returned (.int .i64 (Lib.indexByte s.data.toList c.toNat.toUInt8))∧w'=w:=Any.strings_IndexByte Tryd.lays137 s c w
def Tryd.lays103_ren:Go.Shelf.Ren:=⟨fun | 103=>65 | 210=>78 | 206=>90 | n=>n,fun | 9=>9 | 4=>4 | 24=>93 | 3=>3 | n=>n,fun | n=>n⟩
theorem Tryd.lays103:Go.Proofs.Lays.n103 Tryd.prog Tryd.lays103_ren:={
 mixed:=by kernel_rfl
 f103:=Tryd.func65.trans (congrArg some (by kernel_rfl))
 f206:=Tryd.func90.trans (congrArg some (by kernel_rfl))
 f210:=Tryd.func78.trans (congrArg some (by kernel_rfl))
 t3:=Tryd.underlying3
 a3:=Tryd.isAgg3
 z3:=Tryd.sizeOf3
 v3:=Tryd.zeroValue3
 t4:=Tryd.underlying4
 a4:=Tryd.isAgg4
 z4:=Tryd.sizeOf4
 v4:=Tryd.zeroValue4
 t9:=Tryd.underlying9
 a9:=Tryd.isAgg9
 z9:=Tryd.sizeOf9
 v9:=Tryd.zeroValue9
 t24:=Tryd.underlying93
 a24:=Tryd.isAgg93
 z24:=Tryd.sizeOf93
 v24:=Tryd.zeroValue93 }
open Go.RowKit in
theorem Tryd.strings_CutPrefix (s p:ByteArray) (w:World):
 Calls Tryd.prog 65 #[.string s,.string p] w fun e w'=>e= .returned (.tuple #[.string ⟨(Lib.trimPrefix s.data.toList p.data.toList).toArray⟩,.bool (Lib.hasPrefix s.data.toList p.data.toList)])∧w'=w:=Any.strings_CutPrefix Tryd.lays103 s p w
def Tryd.laysM173_ren:Go.Shelf.Ren:=⟨fun | 173=>48 | 246=>60 | 283=>68 | 284=>69 | 285=>70 | 286=>71 | 129=>85 | 317=>84 | 318=>86 | 319=>87 | 320=>88 | 337=>95 | 338=>96 | n=>n,fun | 2=>2 | 3=>3 | 9=>9 | 4=>4 | 171=>97 | 0=>0 | 53=>69 | 37=>35 | 5=>5 | 173=>100 | 212=>111 | 51=>112 | 20=>20 | 213=>113 | 46=>90 | 232=>125 | 233=>126 | n=>n,fun | 17=>0 | 18=>4 | 19=>5 | n=>n⟩
theorem Tryd.laysM173:Go.Proofs.LaysM.n173 Tryd.prog Tryd.laysM173_ren:={
 mixed:=by kernel_rfl
 f129:=Tryd.func85.trans (congrArg some (by kernel_rfl))
 f173:=Tryd.func48.trans (congrArg some (by kernel_rfl))
 f246:=Tryd.func60.trans (congrArg some (by kernel_rfl))
 f283:=Tryd.func68.trans (congrArg some (by kernel_rfl))
 f284:=Tryd.func69.trans (congrArg some (by kernel_rfl))
 f285:=Tryd.func70.trans (congrArg some (by kernel_rfl))
 f286:=Tryd.func71.trans (congrArg some (by kernel_rfl))
 f317:=Tryd.func84.trans (congrArg some (by kernel_rfl))
 f318:=Tryd.func86.trans (congrArg some (by kernel_rfl))
 f319:=Tryd.func87.trans (congrArg some (by kernel_rfl))
 f320:=Tryd.func88.trans (congrArg some (by kernel_rfl))
 f337:=Tryd.func95.trans (congrArg some (by kernel_rfl))
 f338:=Tryd.func96.trans (congrArg some (by kernel_rfl))
 t0:=Tryd.underlying0
 a0:=Tryd.isAgg0
 z0:=Tryd.sizeOf0
 v0:=Tryd.zeroValue0
 t2:=Tryd.underlying2
 a2:=Tryd.isAgg2
 z2:=Tryd.sizeOf2
 v2:=Tryd.zeroValue2
 t3:=Tryd.underlying3
 a3:=Tryd.isAgg3
 z3:=Tryd.sizeOf3
 v3:=Tryd.zeroValue3
 t4:=Tryd.underlying4
 a4:=Tryd.isAgg4
 z4:=Tryd.sizeOf4
 v4:=Tryd.zeroValue4
 t5:=Tryd.underlying5
 a5:=Tryd.isAgg5
 z5:=Tryd.sizeOf5
 v5:=Tryd.zeroValue5
 t9:=Tryd.underlying9
 a9:=Tryd.isAgg9
 z9:=Tryd.sizeOf9
 v9:=Tryd.zeroValue9
 t20:=Tryd.underlying20
 a20:=Tryd.isAgg20
 z20:=Tryd.sizeOf20
 v20:=Tryd.zeroValue20
 t37:=Tryd.underlying35
 a37:=Tryd.isAgg35
 z37:=Tryd.sizeOf35
 v37:=Tryd.zeroValue35
 t46:=Tryd.underlying90
 a46:=Tryd.isAgg90
 z46:=Tryd.sizeOf90
 v46:=Tryd.zeroValue90
 t51:=Tryd.underlying112
 a51:=Tryd.isAgg112
 z51:=Tryd.sizeOf112
 v51:=Tryd.zeroValue112
 t53:=Tryd.underlying69
 a53:=Tryd.isAgg69
 z53:=Tryd.sizeOf69
 v53:=Tryd.zeroValue69
 t171:=Tryd.underlying97
 a171:=Tryd.isAgg97
 z171:=Tryd.sizeOf97
 v171:=Tryd.zeroValue97
 t173:=Tryd.underlying100
 a173:=Tryd.isAgg100
 z173:=Tryd.sizeOf100
 v173:=Tryd.zeroValue100
 t212:=Tryd.underlying111
 a212:=Tryd.isAgg111
 z212:=Tryd.sizeOf111
 v212:=Tryd.zeroValue111
 t213:=Tryd.underlying113
 a213:=Tryd.isAgg113
 z213:=Tryd.sizeOf113
 t232:=Tryd.underlying125
 a232:=Tryd.isAgg125
 z232:=Tryd.sizeOf125
 v232:=Tryd.zeroValue125
 t233:=Tryd.underlying126
 a233:=Tryd.isAgg126
 z233:=Tryd.sizeOf126
 v233:=Tryd.zeroValue126
 g17:=by kernel_rfl
 g18:=by kernel_rfl
 g19:=by kernel_rfl
 i0:=by kernel_rfl
 i2:=by kernel_rfl
 i3:=by kernel_rfl
 i4:=by kernel_rfl
 i5:=by kernel_rfl
 i9:=by kernel_rfl
 i20:=by kernel_rfl
 i37:=by kernel_rfl
 i46:=by kernel_rfl
 i51:=by kernel_rfl
 i53:=by kernel_rfl
 i171:=by kernel_rfl
 i173:=by kernel_rfl
 i212:=by kernel_rfl
 i232:=by kernel_rfl
 i233:=by kernel_rfl
 m17:=by kernel_rfl
 m18:=by kernel_rfl
 m19:=by kernel_rfl }
open Go.RowKit Go.Sort Go.Lib in
theorem Tryd.strconv_FormatInt_10 (n:Int) (h0: -9223372036854775808≤n) (h1:n≤9223372036854775807) (w:World) (htab:Lib.TabIs Tryd.prog w "internal/strconv.uint64pow10" .u64 Lib.pow10Tab):
 Calls Tryd.prog 48 #[.int .i64 n,.int .i64 10] w fun e w'=>e= .returned (.string ⟨(Lib.itoa n).toArray⟩)∧∃ k os,w'=grow (w.drewN k) os:=Any.strconv_FormatInt_10 Tryd.laysM173 n h0 h1 w htab
def Tryd.laysM316_ren:Go.Shelf.Ren:=⟨fun | 316=>50 | n=>n,fun | 9=>9 | 3=>3 | 4=>4 | 37=>35 | 0=>0 | 127=>91 | 5=>5 | n=>n,fun | n=>n⟩
theorem Tryd.laysM316:Go.Proofs.LaysM.n316 Tryd.prog Tryd.laysM316_ren:={
 mixed:=by kernel_rfl
 f316:=Tryd.func50.trans (congrArg some (by kernel_rfl))
 t0:=Tryd.underlying0
 a0:=Tryd.isAgg0
 z0:=Tryd.sizeOf0
 v0:=Tryd.zeroValue0
 t3:=Tryd.underlying3
 a3:=Tryd.isAgg3
 z3:=Tryd.sizeOf3
 v3:=Tryd.zeroValue3
 t4:=Tryd.underlying4
 a4:=Tryd.isAgg4
 z4:=Tryd.sizeOf4
 v4:=Tryd.zeroValue4
 t9:=Tryd.underlying9
 a9:=Tryd.isAgg9
 z9:=Tryd.sizeOf9
 v9:=Tryd.zeroValue9
 t37:=Tryd.underlying35
 a37:=Tryd.isAgg35
 z37:=Tryd.sizeOf35
 v37:=Tryd.zeroValue35
 t127:=Tryd.underlying91
 a127:=Tryd.isAgg91
 z127:=Tryd.sizeOf91
 v127:=Tryd.zeroValue91
 t5:=Tryd.underlying5
 a5:=Tryd.isAgg5
 z5:=Tryd.sizeOf5
 v5:=Tryd.zeroValue5
 i0:=by kernel_rfl
 i3:=by kernel_rfl
 i4:=by kernel_rfl
 i5:=by kernel_rfl
 i9:=by kernel_rfl
 i37:=by kernel_rfl
 i127:=by kernel_rfl }
open Go.RowKit in
theorem Tryd.stringslite_Clone (s:ByteArray) (w:World) (hlim:s.size≤281474976710656):
 Calls Tryd.prog 50 #[.string s] w fun e w'=>e= .returned (.string s)∧Below w.heap.size w w':=Any.stringslite_Clone Tryd.laysM316 s w hlim
def Tryd.laysC174_ren:Go.Shelf.Ren:=⟨fun | 174=>55 | 247=>66 | 245=>67 | 287=>79 | 279=>80 | 280=>81 | 281=>82 | 282=>83 | 321=>91 | 322=>92 | 316=>50 | 171=>94 | 205=>93 | 243=>97 | 246=>60 | 283=>68 | 284=>69 | 285=>70 | 286=>71 | 129=>85 | 317=>84 | 318=>86 | 319=>87 | 320=>88 | 337=>95 | 338=>96 | n=>n,fun | 9=>9 | 3=>3 | 2=>2 | 75=>85 | 85=>86 | 4=>4 | 167=>103 | 5=>5 | 53=>69 | 175=>104 | 46=>90 | 168=>106 | 37=>35 | 0=>0 | 210=>119 | 21=>21 | 127=>91 | 145=>124 | 143=>122 | 171=>97 | 173=>100 | 212=>111 | 51=>112 | 20=>20 | 213=>113 | 232=>125 | 233=>126 | 80=>127 | n=>n,fun | 15=>1 | 16=>2 | 17=>0 | 18=>4 | 19=>5 | n=>n⟩
theorem Tryd.laysC174:Go.Proofs.LaysC.n174 Tryd.prog Tryd.laysC174_ren:={
 mixed:=by kernel_rfl
 f129:=Tryd.func85.trans (congrArg some (by kernel_rfl))
 f171:=Tryd.func94.trans (congrArg some (by kernel_rfl))
 f174:=Tryd.func55.trans (congrArg some (by kernel_rfl))
 f205:=Tryd.func93.trans (congrArg some (by kernel_rfl))
 f243:=Tryd.func97.trans (congrArg some (by kernel_rfl))
 f245:=Tryd.func67.trans (congrArg some (by kernel_rfl))
 f246:=Tryd.func60.trans (congrArg some (by kernel_rfl))
 f247:=Tryd.func66.trans (congrArg some (by kernel_rfl))
 f279:=Tryd.func80.trans (congrArg some (by kernel_rfl))
 f280:=Tryd.func81.trans (congrArg some (by kernel_rfl))
 f281:=Tryd.func82.trans (congrArg some (by kernel_rfl))
 f282:=Tryd.func83.trans (congrArg some (by kernel_rfl))
 f283:=Tryd.func68.trans (congrArg some (by kernel_rfl))
 f284:=Tryd.func69.trans (congrArg some (by kernel_rfl))
 f285:=Tryd.func70.trans (congrArg some (by kernel_rfl))
 f286:=Tryd.func71.trans (congrArg some (by kernel_rfl))
 f287:=Tryd.func79.trans (congrArg some (by kernel_rfl))
 f316:=Tryd.func50.trans (congrArg some (by kernel_rfl))
 f317:=Tryd.func84.trans (congrArg some (by kernel_rfl))
 f318:=Tryd.func86.trans (congrArg some (by kernel_rfl))
 f319:=Tryd.func87.trans (congrArg some (by kernel_rfl))
 f320:=Tryd.func88.trans (congrArg some (by kernel_rfl))
 f321:=Tryd.func91.trans (congrArg some (by kernel_rfl))
 f322:=Tryd.func92.trans (congrArg some (by kernel_rfl))
 f337:=Tryd.func95.trans (congrArg some (by kernel_rfl))
 f338:=Tryd.func96.trans (congrArg some (by kernel_rfl))
 t0:=Tryd.underlying0
 a0:=Tryd.isAgg0
 z0:=Tryd.sizeOf0
 v0:=Tryd.zeroValue0
 t2:=Tryd.underlying2
 a2:=Tryd.isAgg2
 z2:=Tryd.sizeOf2
 v2:=Tryd.zeroValue2
 t3:=Tryd.underlying3
 a3:=Tryd.isAgg3
 z3:=Tryd.sizeOf3
 v3:=Tryd.zeroValue3
 t4:=Tryd.underlying4
 a4:=Tryd.isAgg4
 z4:=Tryd.sizeOf4
 v4:=Tryd.zeroValue4
 t5:=Tryd.underlying5
 a5:=Tryd.isAgg5
 z5:=Tryd.sizeOf5
 v5:=Tryd.zeroValue5
 t9:=Tryd.underlying9
 a9:=Tryd.isAgg9
 z9:=Tryd.sizeOf9
 v9:=Tryd.zeroValue9
 t20:=Tryd.underlying20
 a20:=Tryd.isAgg20
 z20:=Tryd.sizeOf20
 v20:=Tryd.zeroValue20
 t21:=Tryd.underlying21
 a21:=Tryd.isAgg21
 z21:=Tryd.sizeOf21
 v21:=Tryd.zeroValue21
 t37:=Tryd.underlying35
 a37:=Tryd.isAgg35
 z37:=Tryd.sizeOf35
 v37:=Tryd.zeroValue35
 t46:=Tryd.underlying90
 a46:=Tryd.isAgg90
 z46:=Tryd.sizeOf90
 v46:=Tryd.zeroValue90
 t51:=Tryd.underlying112
 a51:=Tryd.isAgg112
 z51:=Tryd.sizeOf112
 v51:=Tryd.zeroValue112
 t53:=Tryd.underlying69
 a53:=Tryd.isAgg69
 z53:=Tryd.sizeOf69
 v53:=Tryd.zeroValue69
 t75:=Tryd.underlying85
 a75:=Tryd.isAgg85
 z75:=Tryd.sizeOf85
 v75:=Tryd.zeroValue85
 t85:=Tryd.underlying86
 a85:=Tryd.isAgg86
 z85:=Tryd.sizeOf86
 v85:=Tryd.zeroValue86
 t127:=Tryd.underlying91
 a127:=Tryd.isAgg91
 z127:=Tryd.sizeOf91
 v127:=Tryd.zeroValue91
 t143:=Tryd.underlying122
 a143:=Tryd.isAgg122
 z143:=Tryd.sizeOf122
 v143:=Tryd.zeroValue122
 t145:=Tryd.underlying124
 a145:=Tryd.isAgg124
 z145:=Tryd.sizeOf124
 v145:=Tryd.zeroValue124
 t167:=Tryd.underlying103
 a167:=Tryd.isAgg103
 z167:=Tryd.sizeOf103
 v167:=Tryd.zeroValue103
 t168:=Tryd.underlying106
 a168:=Tryd.isAgg106
 z168:=Tryd.sizeOf106
 v168:=Tryd.zeroValue106
 t171:=Tryd.underlying97
 a171:=Tryd.isAgg97
 z171:=Tryd.sizeOf97
 v171:=Tryd.zeroValue97
 t173:=Tryd.underlying100
 a173:=Tryd.isAgg100
 z173:=Tryd.sizeOf100
 v173:=Tryd.zeroValue100
 t175:=Tryd.underlying104
 a175:=Tryd.isAgg104
 z175:=Tryd.sizeOf104
 v175:=Tryd.zeroValue104
 t210:=Tryd.underlying119
 a210:=Tryd.isAgg119
 z210:=Tryd.sizeOf119
 v210:=Tryd.zeroValue119
 t212:=Tryd.underlying111
 a212:=Tryd.isAgg111
 z212:=Tryd.sizeOf111
 v212:=Tryd.zeroValue111
 t213:=Tryd.underlying113
 a213:=Tryd.isAgg113
 z213:=Tryd.sizeOf113
 t232:=Tryd.underlying125
 a232:=Tryd.isAgg125
 z232:=Tryd.sizeOf125
 v232:=Tryd.zeroValue125
 t233:=Tryd.underlying126
 a233:=Tryd.isAgg126
 z233:=Tryd.sizeOf126
 v233:=Tryd.zeroValue126
 g15:=by kernel_rfl
 g16:=by kernel_rfl
 g17:=by kernel_rfl
 g18:=by kernel_rfl
 g19:=by kernel_rfl
 t80:=Tryd.underlying127
 a80:=Tryd.isAgg127
 z80:=Tryd.sizeOf127
 v80:=Tryd.zeroValue127
 i0:=by kernel_rfl
 i2:=by kernel_rfl
 i3:=by kernel_rfl
 i4:=by kernel_rfl
 i5:=by kernel_rfl
 i9:=by kernel_rfl
 i20:=by kernel_rfl
 i21:=by kernel_rfl
 i37:=by kernel_rfl
 i46:=by kernel_rfl
 i51:=by kernel_rfl
 i53:=by kernel_rfl
 i75:=by kernel_rfl
 i80:=by kernel_rfl
 i85:=by kernel_rfl
 i127:=by kernel_rfl
 i143:=by kernel_rfl
 i145:=by kernel_rfl
 i167:=by kernel_rfl
 i168:=by kernel_rfl
 i171:=by kernel_rfl
 i173:=by kernel_rfl
 i175:=by kernel_rfl
 i210:=by kernel_rfl
 i212:=by kernel_rfl
 i232:=by kernel_rfl
 i233:=by kernel_rfl
 m15:=by kernel_rfl
 m16:=by kernel_rfl
 m17:=by kernel_rfl
 m18:=by kernel_rfl
 m19:=by kernel_rfl
 c0:=by kernel_rfl
 c2:=by kernel_rfl
 c3:=by kernel_rfl
 c4:=by kernel_rfl
 c5:=by kernel_rfl
 c9:=by kernel_rfl
 c20:=by kernel_rfl
 c21:=by kernel_rfl
 c37:=by kernel_rfl
 c46:=by kernel_rfl
 c51:=by kernel_rfl
 c53:=by kernel_rfl
 c75:=by kernel_rfl
 c80:=by kernel_rfl
 c85:=by kernel_rfl
 c127:=by kernel_rfl
 c143:=by kernel_rfl
 c145:=by kernel_rfl
 c167:=by kernel_rfl
 c168:=by kernel_rfl
 c171:=by kernel_rfl
 c173:=by kernel_rfl
 c175:=by kernel_rfl
 c210:=by kernel_rfl
 c212:=by kernel_rfl
 c213:=by kernel_rfl
 c232:=by kernel_rfl
 c233:=by kernel_rfl }
open Go.RowKit in
theorem Tryd.strconv_ParseInt_10_at64_ok (s:ByteArray) (hmax:s.size≤9223372036854775806) (v:Int) (h:Lib.parseIntB 64 s.data.toList= .ok v) (w:World):
 Calls Tryd.prog 55 #[.string s,.int .i64 10,.int .i64 64] w fun e w'=>e= .returned (.tuple #[.int .i64 v,.nilIface])∧(w'=w∨∃ t,w'=Lib.bytesWorld w 5 t):=Any.strconv_ParseInt_10_at64_ok Tryd.laysC174 s hmax v h w
open Go.RowKit in
theorem Tryd.strconv_ParseInt_10_at64_range_var (s:ByteArray) (hlim:s.size≤281474976710656) (h:Lib.parseIntB 64 s.data.toList= .range) (tp:TypeId) (p:Value) (w:World) (hvar:w.var? Tryd.prog "strconv.ErrRange"=some #[.iface tp p]):
 Calls Tryd.prog 55 #[.string s,.int .i64 10,.int .i64 64] w fun e w'=>∃ N,e= .returned (.tuple #[.int .i64 (Lib.intSat 64 s.data.toList),.iface 106 (.pointer (some ⟨N,0,none⟩))])∧w.heap.size≤N∧w'.heap[N]?=some (.cells #[.string ⟨#[80,97,114,115,101,73,110,116]⟩,.string s,.iface tp p] 119 (0,0))∧Below w.heap.size w w':=Any.strconv_ParseInt_10_at64_range_var Tryd.laysC174 s hlim h tp p w hvar
end Go.Proofs
