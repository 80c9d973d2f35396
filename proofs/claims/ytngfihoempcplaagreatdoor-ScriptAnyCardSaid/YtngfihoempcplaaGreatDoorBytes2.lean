import Derived.Test.YtngfihoempcplaaGreatDoorRows
import Derived.WalkKit
import Derived.WalkSpells
import Derived.WalkLawsBesides
import Derived.Lib.Hide
import Derived.Outline
import Derived.Test.YtngfihoempcplaaGreatDoorCf
import Derived.Test.YtngfihoempcplaaGreatDoorPlain3
import Derived.Test.YtngfihoempcplaaGreatDoorShelf
namespace Go.Proofs.YtngfihoempcplaaGreatDoor
open Go Go.RowKit
theorem z0m {k:IntKind} {a b:Int} (h:a=b):Ending.returned (.int k a)= .returned (.int k b):=by rw[h]
theorem z0c {a b:Bool} (h:a=b):Ending.returned (.bool a)= .returned (.bool b):=by rw[h]
theorem y2f (c:UInt8) (w:World):Cz 150 #[.int .u8 c.toNat] w fun e w'=>e= .returned (.bool (isDig c))∧w=w':=by
 obtain⟨n,hn⟩:∃ n:Int,n=c.toNat:=⟨_,rfl⟩;have e:isDig c=decide (48≤n∧n≤57):=by rw[hn];rfl
 rw[e,←hn];clear e hn;by_cases h1:48≤n <;> by_cases h2:n≤57
 all_goals
  go_enter Tryz.func150,Tryz.ntmps150;go_wp2;go_ret;exact⟨z0c (by simp[h1,h2]),rfl⟩
theorem y05 (c:UInt8) (w:World):Cz 151 #[.int .u8 c.toNat] w fun e w'=>e= .returned (.bool (isLow c))∧w=w':=by
 obtain⟨n,hn⟩:∃ n:Int,n=c.toNat:=⟨_,rfl⟩;have e:isLow c=decide (97≤n∧n≤122):=by rw[hn];rfl
 rw[e,←hn];clear e hn;by_cases h1:97≤n <;> by_cases h2:n≤122
 all_goals
  go_enter Tryz.func151,Tryz.ntmps151;go_wp2;go_ret;exact⟨z0c (by simp[h1,h2]),rfl⟩
theorem x1d (c:UInt8) (w:World):Cz 152 #[.int .u8 c.toNat] w fun e w'=>e= .returned (.bool (isIn c))∧w=w':=by
 have KD:=fun w=>y2f c w
 have KL:=fun w=>y05 c w
 have e:isIn c=(isLow c || isDig c || decide ((c.toNat:Int)=95)):=rfl;rw[e];clear e;generalize isDig c=d at KD ⊢;generalize isLow c=l at KL ⊢;have HD:=zz KD;have HL:=zz KL;clear KD KL;obtain⟨n,hn⟩:∃ n:Int,n=c.toNat:=⟨_,rfl⟩;rw[←hn] at HD HL ⊢;clear hn;by_cases h:n=95
 ·subst h
  cases d <;> cases l
  all_goals
   go_enter Tryz.func152,Tryz.ntmps152;go_wp2_with (first | (go_at_call 151;((with_reducible refine(HL.out _).mono ?_));rintro e w' ⟨rfl,rfl⟩) | (go_at_call 150;((with_reducible refine(HD.out _).mono ?_));rintro e w' ⟨rfl,rfl⟩));go_ret;exact⟨rfl,rfl⟩
 ·have hb:(n==95)=false:=by simpa using h
  have hd:decide (n=95)=false:=by simpa using h
  cases d <;> cases l
  all_goals
   go_enter Tryz.func152,Tryz.ntmps152;go_wp2_with (first | (go_at_call 151;((with_reducible refine(HL.out _).mono ?_));rintro e w' ⟨rfl,rfl⟩) | (go_at_call 150;((with_reducible refine(HD.out _).mono ?_));rintro e w' ⟨rfl,rfl⟩));go_ret;exact⟨z0c (by simp[hd]),rfl⟩
theorem z3w (c:UInt8) (w:World):Cz 140 #[.int .u8 c.toNat] w fun e w'=>e= .returned (.bool (plainB c))∧w=w':=by
 obtain⟨n,hn⟩:∃ n:Int,n=c.toNat:=⟨_,rfl⟩;have e:plainB c=decide (32≤n∧n≤126∧¬ n=34∧¬ n=92∧¬ n=36):=by rw[hn];rfl
 rw[e,←hn];clear e hn;obtain⟨v,hv⟩:∃ v,v=decide (32≤n∧n≤126∧¬ n=34∧¬ n=92∧¬ n=36):=⟨_,rfl⟩;rw[←hv];have HV:=zz hv;clear hv;by_cases h1:32≤n
 ·by_cases h2:n≤126
  ·by_cases h3:n=34
   ·subst h3
    go_enter Tryz.func140,Tryz.ntmps140;go_wp2;go_ret;exact⟨z0c (by rw[HV.out];rfl),rfl⟩
   ·by_cases h4:n=92
    ·subst h4
     go_enter Tryz.func140,Tryz.ntmps140;go_wp2;go_ret;exact⟨z0c (by rw[HV.out];rfl),rfl⟩
    ·by_cases h5:n=36
     ·subst h5
      go_enter Tryz.func140,Tryz.ntmps140;go_wp2;go_ret;exact⟨z0c (by rw[HV.out];rfl),rfl⟩
     ·have a3:(n != 34)=true:=by simpa using h3
      have a4:(n != 92)=true:=by simpa using h4
      have a5:(n != 36)=true:=by simpa using h5
      go_enter Tryz.func140,Tryz.ntmps140;go_wp2;go_ret;exact⟨z0c (by rw[HV.out];simp;omega),rfl⟩
  ·go_enter Tryz.func140,Tryz.ntmps140
   go_wp2;go_ret;exact⟨z0c (by rw[HV.out];simp;omega),rfl⟩
 ·go_enter Tryz.func140,Tryz.ntmps140
  go_wp2;go_ret;exact⟨z0c (by rw[HV.out];simp;omega),rfl⟩
theorem z44 (c:UInt8) (w:World):Cz 109 #[.int .u8 c.toNat,.bool false] w fun e w'=>e= .returned (.bool (isLow c))∧w=w':=by
 obtain⟨n,hn⟩:∃ n:Int,n=c.toNat:=⟨_,rfl⟩;have e:isLow c=decide (97≤n∧n≤122):=by rw[hn];rfl
 rw[e,←hn];clear e hn;by_cases h1:97≤n <;> by_cases h2:n≤122
 all_goals
  go_enter Tryz.func109,Tryz.ntmps109;go_wp2;go_ret;exact⟨z0c (by simp[h1,h2]),rfl⟩
theorem y2h (c:UInt8) (w:World):Cz 109 #[.int .u8 c.toNat,.bool true] w fun e w'=>e= .returned (.bool (isIn c))∧w=w':=by
 obtain⟨n,hn⟩:∃ n:Int,n=c.toNat:=⟨_,rfl⟩;have e:isIn c=(decide (97≤n∧n≤122) || decide (48≤n∧n≤57) || decide (n=95)):=by rw[hn];rfl
 rw[e,←hn];clear e hn;obtain⟨v,hv⟩:∃ v,v=(decide (97≤n∧n≤122) || decide (48≤n∧n≤57) || decide (n=95)):=⟨_,rfl⟩;rw[←hv];have HV:=zz hv;clear hv;by_cases h0:n=95
 ·subst h0
  go_enter Tryz.func109,Tryz.ntmps109;go_wp2;go_ret;exact⟨z0c (by rw[HV.out];rfl),rfl⟩
 ·have hb:(n==95)=false:=by simpa using h0
  by_cases h1:97≤n
  ·have h3:48≤n:=by omega
   have h4:¬ n≤57:=by omega
   by_cases h2:n≤122
   all_goals
    go_enter Tryz.func109,Tryz.ntmps109;go_wp2;go_ret;exact⟨z0c (by rw[HV.out];simp;omega),rfl⟩
  ·by_cases h3:48≤n <;> by_cases h4:n≤57
   all_goals
    go_enter Tryz.func109,Tryz.ntmps109;go_wp2;go_ret;exact⟨z0c (by rw[HV.out];simp;omega),rfl⟩
theorem y7h (c:UInt8) (w:World):Cz 134 #[.int .u8 c.toNat] w fun e w'=>e= .returned (.int .i64 (hexD c))∧w=w':=by
 have hlt:(c.toNat:Int)≤255:=by have:=UInt8.toNat_lt c;omega
 have hge:0≤(c.toNat:Int):=by omega
 obtain⟨n,hn⟩:∃ n:Int,n=c.toNat:=⟨_,rfl⟩;have e:hexD c=if 48≤n∧n≤57 then n - 48 else if 97≤n∧n≤102 then n - 87 else -1:=by rw[hn];rfl
 rw[e,←hn];rw[←hn] at hlt hge;clear e hn;obtain⟨v,hv⟩:∃ v:Int,v=if 48≤n∧n≤57 then n - 48 else if 97≤n∧n≤102 then n - 87 else -1:=⟨_,rfl⟩
 rw[←hv];have HV:=zz hv;clear hv;by_cases h1:48≤n
 ·by_cases h2:n≤57
  ·go_enter Tryz.func134,Tryz.ntmps134
   go_wp2;go_ret;exact⟨z0m (by rw[HV.out,if_pos ⟨by omega,by omega⟩]),rfl⟩
  ·by_cases h3:97≤n
   ·by_cases h4:n≤102
    ·go_enter Tryz.func134,Tryz.ntmps134
     go_wp2;go_ret;exact⟨z0m (by rw[HV.out,if_neg (by omega),if_pos ⟨by omega,by omega⟩];omega),rfl⟩
    ·go_enter Tryz.func134,Tryz.ntmps134
     go_wp2;go_ret;exact⟨z0m (by rw[HV.out,if_neg (by omega),if_neg (by omega)]),rfl⟩
   ·go_enter Tryz.func134,Tryz.ntmps134
    go_wp2;go_ret;exact⟨z0m (by rw[HV.out,if_neg (by omega),if_neg (by omega)]),rfl⟩
 ·have h3:¬ 97≤n:=by omega
  go_enter Tryz.func134,Tryz.ntmps134;go_wp2;go_ret;exact⟨z0m (by rw[HV.out,if_neg (by omega),if_neg (by omega)]),rfl⟩
theorem z0h (s:BA) (k:Nat) (hk:k<s.size):s.data.toList.drop k=s[k]::s.data.toList.drop (k+1):=by
 have e:s.data.toList.length=s.size:=Array.length_toList;rw[List.drop_eq_getElem_cons (i:=k) (l:=s.data.toList) (by rw[e];exact hk)];simp;rfl
theorem z07 (s:BA) (k:Nat) (hk:¬ k<s.size):s.data.toList.drop k=[]:=by
 have e:s.data.toList.length=s.size:=Array.length_toList;rw[List.drop_eq_nil_iff,e];omega
def hexSet:BA:=⟨#[48,49,50,51,52,53,54,55,56,57,97,98,99,100,101,102]⟩
def letSet:BA:=⟨#[110,114,116,34,92,36]⟩
def escSet:BA:=⟨#[10,13,9,34,92,36]⟩
def lookB (set:BA) (r:Bs):Int:=match r with
 | []=> -1
 | c::_=>Lib.indexByte set.data.toList c
theorem z69 (set s:BA) (i:Nat) (hi:i≤s.size) (w:World):
  Cz 169 #[set,s,i] w fun e w'=>e= .returned (.int .i64 (lookB set (s.data.toList.drop i)))∧w=w':=by
 by_cases hlt:i<s.size
 ·obtain⟨v,hv⟩:∃ v,v=lookB set (s.data.toList.drop i):=⟨_,rfl⟩
  rw[←hv];rw[z0h s i hlt] at hv
  have K:Hid (∀ w,Cz 141 #[set,.int .u8 (s[i].toNat:Nat)] w fun e w'=>e= .returned (.int .i64 v)∧w=w'):=
   zz fun w=>(Tryz.strings_IndexByte set (s[i].toNat:Nat) w).mono fun e w' ⟨he,hw⟩=>⟨by rw[he,hv];simp[lookB],hw.symm⟩
  clear hv;go_enter Tryz.func169,Tryz.ntmps169;go_wp2_with (go_at_call 141;((with_reducible refine(K.out _).mono ?_));rintro e w' ⟨rfl,rfl⟩);go_ret;exact⟨rfl,rfl⟩
 ·rw[z07 s i hlt]
  obtain rfl:i=s.size:=by omega
  go_enter Tryz.func169,Tryz.ntmps169;go_wp2;go_ret;exact⟨rfl,rfl⟩
theorem x3t:∀ c:UInt8,Lib.indexByte hexSet.data.toList c=hexD c:=z5c _ (by decide+kernel)
theorem at_lt (s:BA) (i:Nat) (hi:i<s.size) (w:World):
  Cz 106 #[s,i] w fun e w'=>e= .returned (.int .u8 s[i].toNat)∧w=w':=by
 go_enter Tryz.func106,Tryz.ntmps106;go_wp2;go_ret;exact⟨rfl,rfl⟩
theorem at_ge (s:BA) (i:Nat) (hi:¬ i<s.size) (w:World):
  Cz 106 #[s,i] w fun e w'=>e= .returned (.int .u8 0)∧w=w':=by
 go_enter Tryz.func106,Tryz.ntmps106;go_wp2;go_ret;exact⟨rfl,rfl⟩
end Go.Proofs.YtngfihoempcplaaGreatDoor
