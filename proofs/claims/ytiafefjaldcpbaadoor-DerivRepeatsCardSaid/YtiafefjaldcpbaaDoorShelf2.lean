import Derived.Shelf.Small.Strs
import Derived.Shelf.Strconv.Itoa0
import Derived.Shelf.Strconv.Itoa1
import Derived.Shelf.LaysM
import Derived.Shelf.Strconv.Itoa2
import Derived.Shelf.Strconv.Itoa3
import Derived.Shelf.Strings.Search1
import Derived.Test.YtiafefjaldcpbaaDoorProg
namespace Go.Proofs
open Go.Shelf
def Tryd.lays171_ren:Go.Shelf.Ren:=⟨fun | 171=>78 | 243=>85 | 246=>89 | 283=>92 | 284=>93 | 285=>94 | 286=>95 | 129=>97 | 317=>96 | 318=>98 | 319=>99 | 320=>100 | 337=>101 | 338=>102 | n=>n,fun | 3=>3 | 9=>9 | 2=>2 | 4=>4 | 171=>139 | 0=>0 | 53=>24 | 37=>70 | 5=>5 | 173=>141 | 212=>144 | 51=>145 | 20=>20 | 213=>146 | 46=>90 | 232=>149 | 233=>150 | n=>n,fun | 17=>1 | 18=>2 | 19=>3 | n=>n⟩
theorem Tryd.lays171:Go.Proofs.Lays.n171 Tryd.prog Tryd.lays171_ren:={
 mixed:=by kernel_rfl
 f129:=Tryd.func97.trans (congrArg some (by kernel_rfl))
 f171:=Tryd.func78.trans (congrArg some (by kernel_rfl))
 f243:=Tryd.func85.trans (congrArg some (by kernel_rfl))
 f246:=Tryd.func89.trans (congrArg some (by kernel_rfl))
 f283:=Tryd.func92.trans (congrArg some (by kernel_rfl))
 f284:=Tryd.func93.trans (congrArg some (by kernel_rfl))
 f285:=Tryd.func94.trans (congrArg some (by kernel_rfl))
 f286:=Tryd.func95.trans (congrArg some (by kernel_rfl))
 f317:=Tryd.func96.trans (congrArg some (by kernel_rfl))
 f318:=Tryd.func98.trans (congrArg some (by kernel_rfl))
 f319:=Tryd.func99.trans (congrArg some (by kernel_rfl))
 f320:=Tryd.func100.trans (congrArg some (by kernel_rfl))
 f337:=Tryd.func101.trans (congrArg some (by kernel_rfl))
 f338:=Tryd.func102.trans (congrArg some (by kernel_rfl))
 t0:=Tryd.underlying0
 a0:=Tryd.isAgg0
 z0:=Tryd.sizeOf0
 v0:=Tryd.zeroValue0
 t2:=Tryd.underlying2
 a2:=Tryd.isAgg2
 z2:=Tryd.sizeOf2
 v2:=Tryd.zeroValue2
 t3:=Tryd.underlying3
 a3:=Tryd.isAgg3
 z3:=Tryd.sizeOf3
 v3:=Tryd.zeroValue3
 t4:=Tryd.underlying4
 a4:=Tryd.isAgg4
 z4:=Tryd.sizeOf4
 v4:=Tryd.zeroValue4
 t5:=Tryd.underlying5
 a5:=Tryd.isAgg5
 z5:=Tryd.sizeOf5
 v5:=Tryd.zeroValue5
 t9:=Tryd.underlying9
 a9:=Tryd.isAgg9
 z9:=Tryd.sizeOf9
 v9:=Tryd.zeroValue9
 t20:=Tryd.underlying20
 a20:=Tryd.isAgg20
 z20:=Tryd.sizeOf20
 v20:=Tryd.zeroValue20
 t37:=Tryd.underlying70
 a37:=Tryd.isAgg70
 z37:=Tryd.sizeOf70
 v37:=Tryd.zeroValue70
 t46:=Tryd.underlying90
 a46:=Tryd.isAgg90
 z46:=Tryd.sizeOf90
 v46:=Tryd.zeroValue90
 t51:=Tryd.underlying145
 a51:=Tryd.isAgg145
 z51:=Tryd.sizeOf145
 v51:=Tryd.zeroValue145
 t53:=Tryd.underlying24
 a53:=Tryd.isAgg24
 z53:=Tryd.sizeOf24
 v53:=Tryd.zeroValue24
 t171:=Tryd.underlying139
 a171:=Tryd.isAgg139
 z171:=Tryd.sizeOf139
 v171:=Tryd.zeroValue139
 t173:=Tryd.underlying141
 a173:=Tryd.isAgg141
 z173:=Tryd.sizeOf141
 v173:=Tryd.zeroValue141
 t212:=Tryd.underlying144
 a212:=Tryd.isAgg144
 z212:=Tryd.sizeOf144
 v212:=Tryd.zeroValue144
 t213:=Tryd.underlying146
 a213:=Tryd.isAgg146
 z213:=Tryd.sizeOf146
 t232:=Tryd.underlying149
 a232:=Tryd.isAgg149
 z232:=Tryd.sizeOf149
 v232:=Tryd.zeroValue149
 t233:=Tryd.underlying150
 a233:=Tryd.isAgg150
 z233:=Tryd.sizeOf150
 v233:=Tryd.zeroValue150
 g17:=by kernel_rfl
 g18:=by kernel_rfl
 g19:=by kernel_rfl }
open Go.RowKit Go.Sort Go.Lib in
theorem Tryd.strconv_Itoa_small (i:Nat) (hi:i<100) (w:World):
 Calls Tryd.prog 78 #[.int .i64 i] w fun e w'=>e= .returned (.string ⟨(Lib.decDigits i).toArray⟩)∧w'=w:=Any.strconv_Itoa_small Tryd.lays171 i hi w
end Go.Proofs
