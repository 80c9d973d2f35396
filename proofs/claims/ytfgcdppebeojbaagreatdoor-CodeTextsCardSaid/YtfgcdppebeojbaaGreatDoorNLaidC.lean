import Derived.Test.YtfgcdppebeojbaaGreatDoorNLaid
import Derived.Test.YtfgcdppebeojbaaGreatDoorCo4
namespace Go.Proofs.YtfgcdppebeojbaaGreatDoor
open Go Go.RowKit
section
open Go Go.ChangeShapes Go.WideShapes Go.ChangeAt Go.RowKit
theorem cells_of_texts {H:Type} {enc:TypeId × Value→H} {P:Program} {w:World} {base:Nat} {sp:Nat→Bool} {held:Bool} {fuel:Nat} {t e:TypeId} {n:Nat} {cs:List Value} {ss:List Bs} {p:List MemPlace}
  (ht:P.underlying t=some (.array n e)) (he:P.underlying e=some .string) (hce:P.cellsOf e=1) (hct:P.cellsOf t=n)
  (h:DataW.trod enc P w base sp held fuel t cs=some (.agg (ss.map fun s=> .lit (.string s)),p)):cs=ss.map fun s=>Value.string ⟨s.toArray⟩:=by
 cases fuel with
 | zero=>simp[DataW.trod] at h
 | succ fuel=>
   simp only[DataW.trod,ht,hce,hct,Nat.mul_one] at h
   split at h
   ·rename_i hl
    obtain⟨xs,hm,hx⟩:=Option.map_eq_some_iff.1 h
    have hxs:xs.map (·.1)=ss.map fun s=>(DataW.lit (.string s):DataW H):=by
     have:=congrArg Prod.fst hx;simpa using this
    have hxl:xs.length=n:=by simpa using Lib.mapM_length hm
    have hzl:ss.length=n:=by
     have:=congrArg List.length hxs;simp at this;omega
    apply List.ext_getElem?;intro i;by_cases hi:i<n
    ·obtain⟨b,hb,hf⟩:=Lib.mapM_at hm i i (by simp[hi])
     obtain⟨z,hc,rfl,_⟩:=DataW.trod_string he hf
     have h1:cs[i]?=some (.string z):=by
      have:=congrArg (·[0]?) hc;simpa[List.getElem?_take,List.getElem?_drop] using this
     have h2:(xs.map (·.1))[i]?=some (DataW.lit (.string z.data.toList):DataW H):=by simp[hb]
     rw[hxs] at h2;simp only[List.getElem?_map,Option.map_eq_some_iff,DataW.lit.injEq,Lit.string.injEq] at h2;obtain⟨z',hz',h3⟩:=h2;rw[h1,List.getElem?_map,hz',h3];simp
    ·rw[List.getElem?_eq_none (by omega),List.getElem?_eq_none (by simp;omega)]
   ·cases h
theorem namesG:Tryz.prog.globalNamed "souffleur/code.opNames"=some 0:=by kernel_rfl
theorem namesT:(Tryz.prog.globals[0]?).map (·.type)=some 114:=by kernel_rfl
theorem cellsS17:Tryz.prog.cellsOf 114=17:=by kernel_rfl
theorem cellsS1:Tryz.prog.cellsOf 9=1:=by kernel_rfl
theorem named_of_laid {W:World} (h:laidMetH Tryz.prog Rows.codeTextsRow.laid W):NamesAt W:=by
 rw[MakeChecks.laidMetH_plain _ _ _ (by kernel_rfl)] at h;have h3:=h.tail.tail.tail;obtain⟨ps,⟨g',t',cs,fuel,p,q,hg',ht',hvar,hd,_,_⟩,_⟩:=h3;obtain rfl:=Option.some.inj (namesG.symm.trans hg');obtain rfl:=Option.some.inj (namesT.symm.trans ht');have e:=cells_of_texts (ss:=namesL) Tryz.underlying114 Tryz.underlying9 cellsS1 cellsS17 hd;intro i s hs;have:=World.var?_cell namesG hvar i;rw[this,←Array.getElem?_toList,e];simp[hs]
end
end Go.Proofs.YtfgcdppebeojbaaGreatDoor
