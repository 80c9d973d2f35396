import Derived.Test.YtngfihoempcplaaGreatDoorRows
import Derived.WalkKit
import Derived.WalkSpells
import Derived.WalkLawsBesides
import Derived.Lib.Hide
import Derived.Outline
import Derived.Test.YtngfihoempcplaaGreatDoorPlain3
import Derived.Test.YtngfihoempcplaaGreatDoorShelf
namespace Go.Proofs.YtngfihoempcplaaGreatDoor
open Go Go.RowKit
theorem ret_int {k:IntKind} {a b:Int} (h:a=b):Ending.returned (.int k a)= .returned (.int k b):=by rw[h]
theorem ret_bool {a b:Bool} (h:a=b):Ending.returned (.bool a)= .returned (.bool b):=by rw[h]
theorem isdig_any (c:UInt8) (w:World):Calls Tryz.prog 150 #[.int .u8 c.toNat] w fun e w'=>e= .returned (.bool (isDig c))∧w=w':=by
 obtain⟨n,hn⟩:∃ n:Int,n=c.toNat:=⟨_,rfl⟩;have e:isDig c=decide (48≤n∧n≤57):=by rw[hn];rfl
 rw[e,←hn];clear e hn;by_cases h1:48≤n <;> by_cases h2:n≤57
 all_goals
  go_enter Tryz.func150,Tryz.ntmps150;go_wp2;go_ret;exact⟨ret_bool (by simp[h1,h2]),rfl⟩
theorem islow_any (c:UInt8) (w:World):Calls Tryz.prog 151 #[.int .u8 c.toNat] w fun e w'=>e= .returned (.bool (isLow c))∧w=w':=by
 obtain⟨n,hn⟩:∃ n:Int,n=c.toNat:=⟨_,rfl⟩;have e:isLow c=decide (97≤n∧n≤122):=by rw[hn];rfl
 rw[e,←hn];clear e hn;by_cases h1:97≤n <;> by_cases h2:n≤122
 all_goals
  go_enter Tryz.func151,Tryz.ntmps151;go_wp2;go_ret;exact⟨ret_bool (by simp[h1,h2]),rfl⟩
theorem isin_any (c:UInt8) (w:World):Calls Tryz.prog 152 #[.int .u8 c.toNat] w fun e w'=>e= .returned (.bool (isIn c))∧w=w':=by
 have KD:=fun w=>isdig_any c w
 have KL:=fun w=>islow_any c w
 have e:isIn c=(isLow c || isDig c || decide ((c.toNat:Int)=95)):=rfl;rw[e];clear e;generalize isDig c=d at KD ⊢;generalize isLow c=l at KL ⊢;have HD:=Lib.hid KD;have HL:=Lib.hid KL;clear KD KL;obtain⟨n,hn⟩:∃ n:Int,n=c.toNat:=⟨_,rfl⟩;rw[←hn] at HD HL ⊢;clear hn;by_cases h:n=95
 ·subst h
  cases d <;> cases l
  all_goals
   go_enter Tryz.func152,Tryz.ntmps152;go_wp2_with (first | (go_at_call 151;((with_reducible refine(HL.out _).mono ?_));rintro e w' ⟨rfl,rfl⟩) | (go_at_call 150;((with_reducible refine(HD.out _).mono ?_));rintro e w' ⟨rfl,rfl⟩));go_ret;exact⟨rfl,rfl⟩
 ·have hb:(n==95)=false:=by simpa using h
  have hd:decide (n=95)=false:=by simpa using h
  cases d <;> cases l
  all_goals
   go_enter Tryz.func152,Tryz.ntmps152;go_wp2_with (first | (go_at_call 151;((with_reducible refine(HL.out _).mono ?_));rintro e w' ⟨rfl,rfl⟩) | (go_at_call 150;((with_reducible refine(HD.out _).mono ?_));rintro e w' ⟨rfl,rfl⟩));go_ret;exact⟨ret_bool (by simp[hd]),rfl⟩
theorem plain_any (c:UInt8) (w:World):Calls Tryz.prog 140 #[.int .u8 c.toNat] w fun e w'=>e= .returned (.bool (plainB c))∧w=w':=by
 obtain⟨n,hn⟩:∃ n:Int,n=c.toNat:=⟨_,rfl⟩;have e:plainB c=decide (32≤n∧n≤126∧¬ n=34∧¬ n=92∧¬ n=36):=by rw[hn];rfl
 rw[e,←hn];clear e hn;obtain⟨v,hv⟩:∃ v,v=decide (32≤n∧n≤126∧¬ n=34∧¬ n=92∧¬ n=36):=⟨_,rfl⟩;rw[←hv];have HV:=Lib.hid hv;clear hv;by_cases h1:32≤n
 ·by_cases h2:n≤126
  ·by_cases h3:n=34
   ·subst h3
    go_enter Tryz.func140,Tryz.ntmps140;go_wp2;go_ret;exact⟨ret_bool (by rw[HV.out];rfl),rfl⟩
   ·by_cases h4:n=92
    ·subst h4
     go_enter Tryz.func140,Tryz.ntmps140;go_wp2;go_ret;exact⟨ret_bool (by rw[HV.out];rfl),rfl⟩
    ·by_cases h5:n=36
     ·subst h5
      go_enter Tryz.func140,Tryz.ntmps140;go_wp2;go_ret;exact⟨ret_bool (by rw[HV.out];rfl),rfl⟩
     ·have a3:(n != 34)=true:=by simpa using h3
      have a4:(n != 92)=true:=by simpa using h4
      have a5:(n != 36)=true:=by simpa using h5
      go_enter Tryz.func140,Tryz.ntmps140;go_wp2;go_ret;exact⟨ret_bool (by rw[HV.out];simp;omega),rfl⟩
  ·go_enter Tryz.func140,Tryz.ntmps140
   go_wp2;go_ret;exact⟨ret_bool (by rw[HV.out];simp;omega),rfl⟩
 ·go_enter Tryz.func140,Tryz.ntmps140
  go_wp2;go_ret;exact⟨ret_bool (by rw[HV.out];simp;omega),rfl⟩
theorem drop_at (s:ByteArray) (k:Nat) (hk:k<s.size):s.data.toList.drop k=s[k]::s.data.toList.drop (k+1):=by
 have e:s.data.toList.length=s.size:=Array.length_toList;rw[List.drop_eq_getElem_cons (i:=k) (l:=s.data.toList) (by rw[e];exact hk)];simp;rfl
theorem drop_end (s:ByteArray) (k:Nat) (hk:¬ k<s.size):s.data.toList.drop k=[]:=by
 have e:s.data.toList.length=s.size:=Array.length_toList;rw[List.drop_eq_nil_iff,e];omega
def hexSet:ByteArray:=⟨#[48,49,50,51,52,53,54,55,56,57,97,98,99,100,101,102]⟩
def letSet:ByteArray:=⟨#[110,114,116,34,92,36]⟩
def escSet:ByteArray:=⟨#[10,13,9,34,92,36]⟩
def lookB (set:ByteArray) (r:Bs):Int:=match r with
 | []=> -1
 | c::_=>Lib.indexByte set.data.toList c
theorem indexat_any (set s:ByteArray) (i:Nat) (hi:i≤s.size) (w:World):
  Calls Tryz.prog 169 #[.string set,.string s,.int .i64 i] w fun e w'=>e= .returned (.int .i64 (lookB set (s.data.toList.drop i)))∧w=w':=by
 by_cases hlt:i<s.size
 ·obtain⟨v,hv⟩:∃ v,v=lookB set (s.data.toList.drop i):=⟨_,rfl⟩
  rw[←hv];rw[drop_at s i hlt] at hv
  have K:Hid (∀ w,Calls Tryz.prog 141 #[.string set,.int .u8 (s[i].toNat:Nat)] w fun e w'=>e= .returned (.int .i64 v)∧w=w'):=
   Lib.hid fun w=>(Tryz.strings_IndexByte set (s[i].toNat:Nat) w).mono fun e w' ⟨he,hw⟩=>⟨by rw[he,hv];simp[lookB],hw.symm⟩
  clear hv;go_enter Tryz.func169,Tryz.ntmps169;go_wp2_with (go_at_call 141;((with_reducible refine(K.out _).mono ?_));rintro e w' ⟨rfl,rfl⟩);go_ret;exact⟨rfl,rfl⟩
 ·rw[drop_end s i hlt]
  obtain rfl:i=s.size:=by omega
  go_enter Tryz.func169,Tryz.ntmps169;go_wp2;go_ret;exact⟨rfl,rfl⟩
theorem hex_set:∀ c:UInt8,Lib.indexByte hexSet.data.toList c=hexD c:=all256 _ (by decide+kernel)
end Go.Proofs.YtngfihoempcplaaGreatDoor
