import Derived.Test.YthghbdeaenjckaaGreatDoorRows
import Derived.WalkKit
import Derived.WalkSpells
import Derived.WalkLawsBesides
import Derived.Lib.Hide
import Derived.Outline
import Derived.Test.YthghbdeaenjckaaGreatDoorPlain3
import Derived.Test.YthghbdeaenjckaaGreatDoorShelf
namespace Go.Proofs.YthghbdeaenjckaaGreatDoor
open Go Go.RowKit
theorem ret_int {k:IntKind} {a b:Int} (h:a=b):Ending.returned (.int k a)= .returned (.int k b):=by rw[h]
theorem ret_bool {a b:Bool} (h:a=b):Ending.returned (.bool a)= .returned (.bool b):=by rw[h]
theorem isdig_any (c:UInt8) (w:World):Calls Tryz.prog 109 #[.int .u8 c.toNat] w fun e w'=>e= .returned (.bool (isDig c))∧w=w':=by
 obtain⟨n,hn⟩:∃ n:Int,n=c.toNat:=⟨_,rfl⟩;have e:isDig c=decide (48≤n∧n≤57):=by rw[hn];rfl
 rw[e,←hn];clear e hn;by_cases h1:48≤n <;> by_cases h2:n≤57
 all_goals
  go_enter Tryz.func109,Tryz.ntmps109;go_wp2;go_ret;exact⟨ret_bool (by simp[h1,h2]),rfl⟩
theorem islow_any (c:UInt8) (w:World):Calls Tryz.prog 110 #[.int .u8 c.toNat] w fun e w'=>e= .returned (.bool (isLow c))∧w=w':=by
 obtain⟨n,hn⟩:∃ n:Int,n=c.toNat:=⟨_,rfl⟩;have e:isLow c=decide (97≤n∧n≤122):=by rw[hn];rfl
 rw[e,←hn];clear e hn;by_cases h1:97≤n <;> by_cases h2:n≤122
 all_goals
  go_enter Tryz.func110,Tryz.ntmps110;go_wp2;go_ret;exact⟨ret_bool (by simp[h1,h2]),rfl⟩
theorem isin_any (c:UInt8) (w:World):Calls Tryz.prog 111 #[.int .u8 c.toNat] w fun e w'=>e= .returned (.bool (isIn c))∧w=w':=by
 have KD:=fun w=>isdig_any c w
 have KL:=fun w=>islow_any c w
 have e:isIn c=(isLow c || isDig c || decide ((c.toNat:Int)=95)):=rfl;rw[e];clear e;generalize isDig c=d at KD ⊢;generalize isLow c=l at KL ⊢;have HD:=Lib.hid KD;have HL:=Lib.hid KL;clear KD KL;obtain⟨n,hn⟩:∃ n:Int,n=c.toNat:=⟨_,rfl⟩;rw[←hn] at HD HL ⊢;clear hn;by_cases h:n=95
 ·subst h
  cases d <;> cases l
  all_goals
   go_enter Tryz.func111,Tryz.ntmps111;go_wp2_with (first | (go_at_call 110;((with_reducible refine(HL.out _).mono ?_));rintro e w' ⟨rfl,rfl⟩) | (go_at_call 109;((with_reducible refine(HD.out _).mono ?_));rintro e w' ⟨rfl,rfl⟩));go_ret;exact⟨rfl,rfl⟩
 ·have hb:(n==95)=false:=by simpa using h
  have hd:decide (n=95)=false:=by simpa using h
  cases d <;> cases l
  all_goals
   go_enter Tryz.func111,Tryz.ntmps111;go_wp2_with (first | (go_at_call 110;((with_reducible refine(HL.out _).mono ?_));rintro e w' ⟨rfl,rfl⟩) | (go_at_call 109;((with_reducible refine(HD.out _).mono ?_));rintro e w' ⟨rfl,rfl⟩));go_ret;exact⟨ret_bool (by simp[hd]),rfl⟩
theorem plain_any (c:UInt8) (w:World):Calls Tryz.prog 107 #[.int .u8 c.toNat] w fun e w'=>e= .returned (.bool (plainB c))∧w=w':=by
 obtain⟨n,hn⟩:∃ n:Int,n=c.toNat:=⟨_,rfl⟩;have e:plainB c=decide (32≤n∧n≤126∧¬ n=34∧¬ n=92∧¬ n=36):=by rw[hn];rfl
 rw[e,←hn];clear e hn;obtain⟨v,hv⟩:∃ v,v=decide (32≤n∧n≤126∧¬ n=34∧¬ n=92∧¬ n=36):=⟨_,rfl⟩;rw[←hv];have HV:=Lib.hid hv;clear hv;by_cases h1:32≤n
 ·by_cases h2:n≤126
  ·by_cases h3:n=34
   ·subst h3
    go_enter Tryz.func107,Tryz.ntmps107;go_wp2;go_ret;exact⟨ret_bool (by rw[HV.out];rfl),rfl⟩
   ·by_cases h4:n=92
    ·subst h4
     go_enter Tryz.func107,Tryz.ntmps107;go_wp2;go_ret;exact⟨ret_bool (by rw[HV.out];rfl),rfl⟩
    ·by_cases h5:n=36
     ·subst h5
      go_enter Tryz.func107,Tryz.ntmps107;go_wp2;go_ret;exact⟨ret_bool (by rw[HV.out];rfl),rfl⟩
     ·have a3:(n != 34)=true:=by simpa using h3
      have a4:(n != 92)=true:=by simpa using h4
      have a5:(n != 36)=true:=by simpa using h5
      go_enter Tryz.func107,Tryz.ntmps107;go_wp2;go_ret;exact⟨ret_bool (by rw[HV.out];simp;omega),rfl⟩
  ·go_enter Tryz.func107,Tryz.ntmps107
   go_wp2;go_ret;exact⟨ret_bool (by rw[HV.out];simp;omega),rfl⟩
 ·go_enter Tryz.func107,Tryz.ntmps107
  go_wp2;go_ret;exact⟨ret_bool (by rw[HV.out];simp;omega),rfl⟩
theorem small_no (c:UInt8) (w:World):Calls Tryz.prog 43 #[.int .u8 c.toNat,.bool false] w fun e w'=>e= .returned (.bool (isLow c))∧w=w':=by
 obtain⟨n,hn⟩:∃ n:Int,n=c.toNat:=⟨_,rfl⟩;have e:isLow c=decide (97≤n∧n≤122):=by rw[hn];rfl
 rw[e,←hn];clear e hn;by_cases h1:97≤n <;> by_cases h2:n≤122
 all_goals
  go_enter Tryz.func43,Tryz.ntmps43;go_wp2;go_ret;exact⟨ret_bool (by simp[h1,h2]),rfl⟩
theorem small_yes (c:UInt8) (w:World):Calls Tryz.prog 43 #[.int .u8 c.toNat,.bool true] w fun e w'=>e= .returned (.bool (isIn c))∧w=w':=by
 obtain⟨n,hn⟩:∃ n:Int,n=c.toNat:=⟨_,rfl⟩;have e:isIn c=(decide (97≤n∧n≤122) || decide (48≤n∧n≤57) || decide (n=95)):=by rw[hn];rfl
 rw[e,←hn];clear e hn;obtain⟨v,hv⟩:∃ v,v=(decide (97≤n∧n≤122) || decide (48≤n∧n≤57) || decide (n=95)):=⟨_,rfl⟩;rw[←hv];have HV:=Lib.hid hv;clear hv;by_cases h0:n=95
 ·subst h0
  go_enter Tryz.func43,Tryz.ntmps43;go_wp2;go_ret;exact⟨ret_bool (by rw[HV.out];rfl),rfl⟩
 ·have hb:(n==95)=false:=by simpa using h0
  by_cases h1:97≤n
  ·have h3:48≤n:=by omega
   have h4:¬ n≤57:=by omega
   by_cases h2:n≤122
   all_goals
    go_enter Tryz.func43,Tryz.ntmps43;go_wp2;go_ret;exact⟨ret_bool (by rw[HV.out];simp;omega),rfl⟩
  ·by_cases h3:48≤n <;> by_cases h4:n≤57
   all_goals
    go_enter Tryz.func43,Tryz.ntmps43;go_wp2;go_ret;exact⟨ret_bool (by rw[HV.out];simp;omega),rfl⟩
theorem digit_any (c:UInt8) (w:World):Calls Tryz.prog 96 #[.int .u8 c.toNat] w fun e w'=>e= .returned (.int .i64 (hexD c))∧w=w':=by
 have hlt:(c.toNat:Int)≤255:=by have:=UInt8.toNat_lt c;omega
 have hge:0≤(c.toNat:Int):=by omega
 obtain⟨n,hn⟩:∃ n:Int,n=c.toNat:=⟨_,rfl⟩;have e:hexD c=if 48≤n∧n≤57 then n - 48 else if 97≤n∧n≤102 then n - 87 else -1:=by rw[hn];rfl
 rw[e,←hn];rw[←hn] at hlt hge;clear e hn;obtain⟨v,hv⟩:∃ v:Int,v=if 48≤n∧n≤57 then n - 48 else if 97≤n∧n≤102 then n - 87 else -1:=⟨_,rfl⟩
 rw[←hv];have HV:=Lib.hid hv;clear hv;by_cases h1:48≤n
 ·by_cases h2:n≤57
  ·go_enter Tryz.func96,Tryz.ntmps96
   go_wp2;go_ret;exact⟨ret_int (by rw[HV.out,if_pos ⟨by omega,by omega⟩]),rfl⟩
  ·by_cases h3:97≤n
   ·by_cases h4:n≤102
    ·go_enter Tryz.func96,Tryz.ntmps96
     go_wp2;go_ret;exact⟨ret_int (by rw[HV.out,if_neg (by omega),if_pos ⟨by omega,by omega⟩];omega),rfl⟩
    ·go_enter Tryz.func96,Tryz.ntmps96
     go_wp2;go_ret;exact⟨ret_int (by rw[HV.out,if_neg (by omega),if_neg (by omega)]),rfl⟩
   ·go_enter Tryz.func96,Tryz.ntmps96
    go_wp2;go_ret;exact⟨ret_int (by rw[HV.out,if_neg (by omega),if_neg (by omega)]),rfl⟩
 ·have h3:¬ 97≤n:=by omega
  go_enter Tryz.func96,Tryz.ntmps96;go_wp2;go_ret;exact⟨ret_int (by rw[HV.out,if_neg (by omega),if_neg (by omega)]),rfl⟩
theorem drop_at (s:ByteArray) (k:Nat) (hk:k<s.size):s.data.toList.drop k=s[k]::s.data.toList.drop (k+1):=by
 have e:s.data.toList.length=s.size:=Array.length_toList;rw[List.drop_eq_getElem_cons (i:=k) (l:=s.data.toList) (by rw[e];exact hk)];simp;rfl
theorem drop_end (s:ByteArray) (k:Nat) (hk:¬ k<s.size):s.data.toList.drop k=[]:=by
 have e:s.data.toList.length=s.size:=Array.length_toList;rw[List.drop_eq_nil_iff,e];omega
def hexSet:ByteArray:=⟨#[48,49,50,51,52,53,54,55,56,57,97,98,99,100,101,102]⟩
def escSet:ByteArray:=⟨#[10,13,9,34,92,36]⟩
theorem at_lt (s:ByteArray) (i:Nat) (hi:i<s.size) (w:World):
  Calls Tryz.prog 76 #[.string s,.int .i64 i] w fun e w'=>e= .returned (.int .u8 s[i].toNat)∧w=w':=by
 go_enter Tryz.func76,Tryz.ntmps76;go_wp2;go_ret;exact⟨rfl,rfl⟩
theorem at_ge (s:ByteArray) (i:Nat) (hi:¬ i<s.size) (w:World):
  Calls Tryz.prog 76 #[.string s,.int .i64 i] w fun e w'=>e= .returned (.int .u8 0)∧w=w':=by
 go_enter Tryz.func76,Tryz.ntmps76;go_wp2;go_ret;exact⟨rfl,rfl⟩
end Go.Proofs.YthghbdeaenjckaaGreatDoor
