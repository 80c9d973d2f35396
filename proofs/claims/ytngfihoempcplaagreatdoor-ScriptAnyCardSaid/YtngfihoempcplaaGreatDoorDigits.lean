import Derived.Lib.ItoaNum
import Derived.Lib.ParseIntBTie
import Derived.Lib.ParseIntBCases
namespace Go.Proofs.YtngfihoempcplaaGreatDoor
open Go
section
open Go
def digB (c:UInt8):Bool:=decide (48≤c.toNat) && decide (c.toNat≤57)
def valF (acc:Nat) (l:List UInt8):Nat:=l.foldl (fun a c=>a * 10+(c.toNat - 48)) acc
def valN (l:List UInt8):Nat:=valF 0 l
theorem y02 (l:List UInt8) (c:UInt8):valN (l++[c])=valN l * 10+(c.toNat - 48):=by simp[valN,valF]
theorem y9d:∀ (l:List UInt8) (acc:Nat),acc≤valF acc l
 | [],acc=>Nat.le_refl _
 | c::r,acc=>by
   have:=y9d r (acc * 10+(c.toNat - 48));show acc≤valF (acc * 10+(c.toNat - 48)) r;omega
theorem y8k:∀ (l:List UInt8) (acc:Nat),l.all digB=true→Lib.parseUint10 acc l=if valF acc l<18446744073709551616∨l=[] then .ok (valF acc l) else .range
 | [],acc,_=>by simp[Lib.parseUint10,valF]
 | c::r,acc,h=>by
   simp only[List.all_cons,Bool.and_eq_true] at h;obtain⟨hc,hr⟩:=h;have hc':48≤c.toNat∧c.toNat≤57:=by simpa[digB] using hc
   have e:valF acc (c::r)=valF (acc * 10+(c.toNat - 48)) r:=rfl;have g:=y9d r (acc * 10+(c.toNat - 48));have ih:=y8k r (acc * 10+(c.toNat - 48)) hr;rw[e];simp only[Lib.parseUint10];rw[if_pos hc'];by_cases h1:1844674407370955162≤acc
   ·rw[if_pos h1,if_neg (by simp;omega)]
   ·rw[if_neg h1]
    by_cases h2:18446744073709551616≤acc * 10+(c.toNat - 48)
    ·rw[if_pos h2,if_neg (by simp;omega)]
    ·rw[if_neg h2,ih]
     by_cases hr0:r=[]
     ·subst hr0
      have e2:valF (acc * 10+(c.toNat - 48)) []=acc * 10+(c.toNat - 48):=rfl;rw[if_pos (Or.inr rfl),if_pos (Or.inl (by omega))]
     ·by_cases h3:valF (acc * 10+(c.toNat - 48)) r<18446744073709551616
      ·rw[if_pos (Or.inl h3),if_pos (Or.inl h3)]
      ·rw[if_neg (by simp[hr0];omega),if_neg (by simp;omega)]
theorem mag10 (l:List UInt8) (hne:l≠[]) (h:l.all digB=true):Lib.parseMag l=if valN l<18446744073709551616 then .ok (valN l) else .range:=by
 unfold Lib.parseMag;rw[if_neg hne,y8k l 0 h,show valF 0 l=valN l from rfl];by_cases h1:valN l<18446744073709551616
 ·rw[if_pos (Or.inl h1),if_pos h1]
 ·rw[if_neg (fun hh=>hh.elim h1 hne),if_neg h1]
theorem y7c (c:UInt8) (r:List UInt8) (h:(c::r).all digB=true):
  Lib.parseIntB 64 (c::r)=if valN (c::r)<9223372036854775808 then .ok (valN (c::r):Int) else .range:=by
 have hc:48≤c.toNat∧c.toNat≤57:=by
  simp only[List.all_cons,Bool.and_eq_true] at h;simpa[digB] using h.1
 rw[Lib.parseIntB_64,Lib.atoiAll_plain c r (by omega) (by omega),mag10 _ (by simp) h];by_cases h1:valN (c::r)<18446744073709551616
 ·rw[if_pos h1]
  by_cases h2:valN (c::r)<9223372036854775808
  ·rw[if_pos h2];simp only[Lib.signless];rw[if_neg (by omega)]
  ·rw[if_neg h2];simp only[Lib.signless];rw[if_pos (by omega)]
 ·rw[if_neg h1,if_neg (by omega)];rfl
theorem y9f (r:List UInt8) (hne:r≠[]) (h:r.all digB=true):
  Lib.parseIntB 64 (45::r)=if valN r≤9223372036854775808 then .ok (-(valN r:Int)) else .range:=by
 rw[Lib.parseIntB_64,Lib.atoiAll_minus,mag10 _ hne h];by_cases h1:valN r<18446744073709551616
 ·rw[if_pos h1]
  by_cases h2:valN r≤9223372036854775808
  ·rw[if_pos h2];simp only[Lib.signed];rw[if_neg (by omega)]
  ·rw[if_neg h2];simp only[Lib.signed];rw[if_pos (by omega)]
 ·rw[if_neg h1,if_neg (by omega)];rfl
end
end Go.Proofs.YtngfihoempcplaaGreatDoor
