import Derived.Deep.QuietTactic
import Derived.BigQuiet
import Derived.Test.YthghbdeaenjckaaGreatDoorBytes2
namespace Go.Proofs.YthghbdeaenjckaaGreatDoor
open Go Go.RowKit
def lookH (r:Bs):Int:=match r with
 | []=> -1
 | c::_=>hexD c
theorem lookH_bd (r:Bs): -1≤lookH r∧lookH r≤15:=by
 cases r with
 | nil=>exact⟨by decide,by decide⟩
 | cons c r=>exact hexD_bd c
theorem stepHex_eq (r:Bs):stepHex r=if lookH r<0 then .bad 2 else if lookH r.tail<0 then .bad 3 else .byte (UInt8.ofNat (lookH r * 16+lookH r.tail).toNat) 4:=by
 cases r with
 | nil=>rfl
 | cons c r=>
   cases r with
   | nil=>unfold stepHex;simp[lookH]
   | cons d r=>rfl
theorem lookH_lt (s:ByteArray) (i:Nat) (h:¬ lookH (s.data.toList.drop i)<0):i<s.size:=by
 by_cases hlt:i<s.size
 ·exact hlt
 ·rw[drop_end s i hlt] at h;exact absurd (show lookH []<0 by decide) h
theorem byte_eq {a:UInt8} {n:Nat} (h:a=UInt8.ofNat n) (hn:n<256):((a.toNat:Int)==n)=true:=by
 subst h;simp;omega
theorem byte_ne {a:UInt8} {n:Nat} (h:a≠UInt8.ofNat n) (hn:n<256):((a.toNat:Int)==n)=false:=by
 simp only[beq_eq_false_iff_ne,ne_eq];intro e;apply h;rw[←UInt8.toNat_inj,UInt8.toNat_ofNat'];omega
theorem stepEsc_no {c:UInt8} {t:Bs} (hc:c≠120) (h:escD c=none):stepEsc (c::t)= .bad 1:=by
 unfold stepEsc;simp[hc,h]
end Go.Proofs.YthghbdeaenjckaaGreatDoor
