import Derived.Shelf.Small.Strs
import Derived.Shelf.Strconv.Itoa0
import Derived.Shelf.Strconv.Itoa1
import Derived.Shelf.LaysM
import Derived.Shelf.Strconv.Itoa2
import Derived.Shelf.Strconv.Itoa3
import Derived.Shelf.Strings.Search1
import Derived.Test.YtejgbpbljdhndaaDoorProg
namespace Go.Proofs
open Go.Shelf
def Tryd.lays171_ren:Go.Shelf.Ren:=⟨fun | 171=>74 | 243=>82 | 246=>86 | 283=>89 | 284=>90 | 285=>91 | 286=>92 | 129=>94 | 317=>93 | 318=>95 | 319=>96 | 320=>97 | 337=>98 | 338=>99 | n=>n,fun | 3=>3 | 9=>9 | 2=>2 | 4=>4 | 171=>152 | 0=>0 | 53=>22 | 37=>99 | 5=>5 | 173=>154 | 212=>157 | 51=>158 | 20=>20 | 213=>159 | 46=>148 | 232=>162 | 233=>163 | n=>n,fun | 17=>1 | 18=>2 | 19=>3 | n=>n⟩
theorem Tryd.lays171:Go.Proofs.Lays.n171 Tryd.prog Tryd.lays171_ren:={
 mixed:=by kernel_rfl
 f129:=Tryd.func94.trans (congrArg some (by kernel_rfl))
 f171:=Tryd.func74.trans (congrArg some (by kernel_rfl))
 f243:=Tryd.func82.trans (congrArg some (by kernel_rfl))
 f246:=Tryd.func86.trans (congrArg some (by kernel_rfl))
 f283:=Tryd.func89.trans (congrArg some (by kernel_rfl))
 f284:=Tryd.func90.trans (congrArg some (by kernel_rfl))
 f285:=Tryd.func91.trans (congrArg some (by kernel_rfl))
 f286:=Tryd.func92.trans (congrArg some (by kernel_rfl))
 f317:=Tryd.func93.trans (congrArg some (by kernel_rfl))
 f318:=Tryd.func95.trans (congrArg some (by kernel_rfl))
 f319:=Tryd.func96.trans (congrArg some (by kernel_rfl))
 f320:=Tryd.func97.trans (congrArg some (by kernel_rfl))
 f337:=Tryd.func98.trans (congrArg some (by kernel_rfl))
 f338:=Tryd.func99.trans (congrArg some (by kernel_rfl))
 t0:=Tryd.underlying0
 a0:=Tryd.isAgg0
 z0:=Tryd.sizeOf0
 v0:=Tryd.zeroValue0
 t2:=Tryd.underlying2
 a2:=Tryd.isAgg2
 z2:=Tryd.sizeOf2
 v2:=Tryd.zeroValue2
 t3:=Tryd.underlying3
 a3:=Tryd.isAgg3
 z3:=Tryd.sizeOf3
 v3:=Tryd.zeroValue3
 t4:=Tryd.underlying4
 a4:=Tryd.isAgg4
 z4:=Tryd.sizeOf4
 v4:=Tryd.zeroValue4
 t5:=Tryd.underlying5
 a5:=Tryd.isAgg5
 z5:=Tryd.sizeOf5
 v5:=Tryd.zeroValue5
 t9:=Tryd.underlying9
 a9:=Tryd.isAgg9
 z9:=Tryd.sizeOf9
 v9:=Tryd.zeroValue9
 t20:=Tryd.underlying20
 a20:=Tryd.isAgg20
 z20:=Tryd.sizeOf20
 v20:=Tryd.zeroValue20
 t37:=Tryd.underlying99
 a37:=Tryd.isAgg99
 z37:=Tryd.sizeOf99
 v37:=Tryd.zeroValue99
 t46:=Tryd.underlying148
 a46:=Tryd.isAgg148
 z46:=Tryd.sizeOf148
 v46:=Tryd.zeroValue148
 t51:=Tryd.underlying158
 a51:=Tryd.isAgg158
 z51:=Tryd.sizeOf158
 v51:=Tryd.zeroValue158
 t53:=Tryd.underlying22
 a53:=Tryd.isAgg22
 z53:=Tryd.sizeOf22
 v53:=Tryd.zeroValue22
 t171:=Tryd.underlying152
 a171:=Tryd.isAgg152
 z171:=Tryd.sizeOf152
 v171:=Tryd.zeroValue152
 t173:=Tryd.underlying154
 a173:=Tryd.isAgg154
 z173:=Tryd.sizeOf154
 v173:=Tryd.zeroValue154
 t212:=Tryd.underlying157
 a212:=Tryd.isAgg157
 z212:=Tryd.sizeOf157
 v212:=Tryd.zeroValue157
 t213:=Tryd.underlying159
 a213:=Tryd.isAgg159
 z213:=Tryd.sizeOf159
 t232:=Tryd.underlying162
 a232:=Tryd.isAgg162
 z232:=Tryd.sizeOf162
 v232:=Tryd.zeroValue162
 t233:=Tryd.underlying163
 a233:=Tryd.isAgg163
 z233:=Tryd.sizeOf163
 v233:=Tryd.zeroValue163
 g17:=by kernel_rfl
 g18:=by kernel_rfl
 g19:=by kernel_rfl }
open Go.RowKit Go.Sort Go.Lib in
theorem Tryd.strconv_Itoa_small (i:Nat) (hi:i<100) (w:World):
 Calls Tryd.prog 74 #[.int .i64 i] w fun e w'=>e= .returned (.string ⟨(Lib.decDigits i).toArray⟩)∧w'=w:=Any.strconv_Itoa_small Tryd.lays171 i hi w
end Go.Proofs
