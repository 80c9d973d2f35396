import Derived.Lib.ItoaNum
import Derived.Lib.ParseIntBTie
import Derived.Lib.ParseIntBCases
namespace Go.Proofs.YthghbdeaenjckaaGreatDoor
open Go
section
open Go
def digB (c:UInt8):Bool:=decide (48≤c.toNat) && decide (c.toNat≤57)
def valF (acc:Nat) (l:List UInt8):Nat:=l.foldl (fun a c=>a * 10+(c.toNat - 48)) acc
def valN (l:List UInt8):Nat:=valF 0 l
theorem valN_snoc (l:List UInt8) (c:UInt8):valN (l++[c])=valN l * 10+(c.toNat - 48):=by simp[valN,valF]
theorem dec_small {u:Nat} (h:u<10):Lib.decDigits u=[UInt8.ofNat (48+u)]:=Lib.decDigits_one h
theorem dec_big {u:Nat} (h:¬ u<10):Lib.decDigits u=Lib.decDigits (u / 10)++[UInt8.ofNat (48+u % 10)]:=by rw[Lib.decDigits,dif_neg h]
theorem ofNat_toNat {k:Nat} (h:k<256):(UInt8.ofNat k).toNat=k:=by rw[UInt8.toNat_ofNat'];omega
theorem dig_of {d:Nat} (h:d<10):digB (UInt8.ofNat (48+d))=true:=by
 unfold digB;rw[ofNat_toNat (by omega)];simp;omega
theorem head_app {l m:List UInt8} (h:l≠[]):(l++m).head?=l.head?:=by
 cases l with
 | nil=>exact absurd rfl h
 | cons a r=>rfl
theorem dec_facts (u:Nat):(Lib.decDigits u).all digB=true∧valN (Lib.decDigits u)=u∧Lib.decDigits u≠[]∧(u≠0→(Lib.decDigits u).head?≠some 48):=by
 induction u using Nat.strongRecOn with
 | _ u ih=>
   by_cases h:u<10
   ·rw[dec_small h]
    refine⟨by rw[List.all_cons,dig_of h];rfl,?_,by simp,?_⟩
    ·show 0 * 10+((UInt8.ofNat (48+u)).toNat - 48)=u
     rw[ofNat_toNat (by omega)];omega
    ·intro hu e
     simp only[List.head?_cons,Option.some.injEq] at e;have:=congrArg UInt8.toNat e;rw[ofNat_toNat (by omega)] at this;have h48:(48:UInt8).toNat=48:=rfl;omega
   ·obtain⟨a,b,c,d⟩:=ih (u / 10) (by omega)
    rw[dec_big h];refine⟨by rw[List.all_append,a,List.all_cons,dig_of (Nat.mod_lt u (by decide:0<10))];rfl,?_,by simp,?_⟩
    ·rw[valN_snoc,b,ofNat_toNat (by omega)];omega
    ·intro _ e
     rw[head_app c] at e;exact d (by omega) e
end
end Go.Proofs.YthghbdeaenjckaaGreatDoor
