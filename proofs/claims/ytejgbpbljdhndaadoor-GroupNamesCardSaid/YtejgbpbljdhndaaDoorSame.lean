import Derived.ChangeKeysEq
import Derived.Laws.StructEq
import Derived.Test.YtejgbpbljdhndaaDoorTree2
namespace Go.Proofs.YtejgbpbljdhndaaDoor
open Go Go.RowKit
theorem x24:(Tryd.prog.info? 22).map (fun i=>(i.zero,i.size,i.bytes))=some (some (.int .u64 0),1,8):=by kernel_rfl
theorem x1z:Tryd.prog.cellsOf 22=1:=by kernel_rfl
theorem y4j (a b c d a' b' c' d':Int) (w:World):(Op.equalIn 10000 24 (.agg #[.int .u64 a,.int .u64 b,.int .u64 c,.int .u64 d]) (.agg #[.int .u64 a',.int .u64 b',.int .u64 c',.int .u64 d'])).run Tryd.prog w= .ok (a==a' && (b==b' && (c==c' && d==d'))) w:=by
 obtain⟨i,hi,_⟩:=info_parts x24;rw[run_equalIn_array w 9999 _ _ Tryd.underlying24 hi];have e:∀ x y,(Op.equalIn 9999 22 (.int .u64 x) (.int .u64 y)).run Tryd.prog w= .ok (x==y) w:=fun x y=>run_equalIn_int (P:=Tryd.prog) w 9998 22 .u64 .u64 x y Tryd.underlying22
 by_cases h1:a=a' <;> by_cases h2:b=b' <;> by_cases h3:c=c' <;> by_cases h4:d=d' <;> simp[Op.eqItems,List.range_succ,go_sem,h1,h2,h3,h4,x1z]
theorem y76 (S T:S4):(((S.1.toNat:Int)==(T.1.toNat:Int)) && (((S.2.1.toNat:Int)==(T.2.1.toNat:Int)) && (((S.2.2.1.toNat:Int)==(T.2.2.1.toNat:Int)) && ((S.2.2.2.toNat:Int)==(T.2.2.2.toNat:Int)))))=decide (S=T):=by
 rw[Bool.eq_iff_iff];simp only[Bool.and_eq_true,beq_iff_eq,decide_eq_true_eq]
 constructor
 ·rintro⟨h1,h2,h3,h4⟩
  exact Prod.ext (UInt64.toNat_inj.1 (by omega)) (Prod.ext (UInt64.toNat_inj.1 (by omega)) (Prod.ext (UInt64.toNat_inj.1 (by omega)) (UInt64.toNat_inj.1 (by omega))))
 ·rintro rfl;exact⟨rfl,rfl,rfl,rfl⟩
theorem z2v (S T:S4) (w:World):(binOp .neq 24 (.agg #[.int .u64 S.1.toNat,.int .u64 S.2.1.toNat,.int .u64 S.2.2.1.toNat,.int .u64 S.2.2.2.toNat]) (.agg #[.int .u64 T.1.toNat,.int .u64 T.2.1.toNat,.int .u64 T.2.2.1.toNat,.int .u64 T.2.2.2.toNat])).run Tryd.prog w= .ok (.bool (!decide (S=T))) w:=by
 rw[run_neq_struct,y4j,y76];rfl
def kidsOf (ks:List Re):Re:= .mk 0 none4 ks 0 0 0
theorem z9m {P:Nat→Prop} {w:World} {A:Option Addr} {k lo hi n:Int} {S:S4} {ks:List Re} (h:Kids P w A (.mk k S ks lo hi n)):Kids P w A (kidsOf ks):=by
 unfold kidsOf;rw[Kids] at h ⊢;exact h
end Go.Proofs.YtejgbpbljdhndaaDoor
