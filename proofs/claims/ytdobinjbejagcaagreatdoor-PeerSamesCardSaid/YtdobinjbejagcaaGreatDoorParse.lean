import Derived.Test.YtdobinjbejagcaaGreatDoorName
import Derived.Below
import Derived.Deep.Draws
import Derived.Laws.IdiomStrings
import Derived.Laws.OwnMore
import Derived.Lib.SmallJoins
import Derived.Lib.UnsafeStr
namespace Go.Proofs.YtdobinjbejagcaaGreatDoor
open Go Go.RowKit
set_option maxHeartbeats 400000
theorem name_any (s:ByteArray) (hs:s.size≤4611686018427387904) (w:World):
  Calls Tryz.prog 52 #[.string s] w fun e w'=>e= .returned (.bool (isName s.data.toList))∧w=w':=by
 by_cases h0:0<s.size
 ·have he:=isEmpty_f s h0
  have he2:¬ s.toList=[]:=by intro e;rw[e] at he;simp at he
  have hl:=len_data s
  have e:isName s.data.toList=decide (nameLen s.data.toList=s.size):=by
   unfold isName;rw[hl,←toList_data,he];rfl
  rw[e];have hb:=(nameLen_le s.data.toList).1;rw[hl] at hb;have K:=Lib.hid fun w=>namebytes_any s hs w
  obtain⟨n,hn⟩:∃ n,n=nameLen s.data.toList:=⟨_,rfl⟩;rw[←hn] at K hb ⊢;clear hn e hl;by_cases h:n=s.size
  ·subst h
   obtain⟨v,hv⟩:∃ v,v=decide (s.size=s.size):=⟨_,rfl⟩;rw[←hv];have HV:Hid (v=true):=by apply Lib.hid;rw[hv];simp
   clear hv;go_enter Tryz.func52,Tryz.ntmps52;go_wp2_with (go_at_call 77;((with_reducible refine(K.out _).mono ?_));rintro e w' ⟨rfl,rfl⟩);go_ret;exact⟨ret_bool (by rw[HV.out]),rfl⟩
  ·have h1:((n:Int)==(s.size:Int))=false:=by simp;omega
   have h2:decide (n=s.size)=false:=by simpa using h
   have h3:(n==s.size)=false:=by simpa using h
   rw[h2];clear h2;go_enter Tryz.func52,Tryz.ntmps52;go_wp2_with (go_at_call 77;((with_reducible refine(K.out _).mono ?_));rintro e w' ⟨rfl,rfl⟩);go_ret;exact⟨ret_bool (by simp),rfl⟩
 ·have e:=isEmpty_t s h0
  have he:s.toList.isEmpty=true:=by rw[toList_data,e];rfl
  have he2:s.toList=[]:=by rw[toList_data,e]
  rw[e];clear e;go_enter Tryz.func52,Tryz.ntmps52;go_wp2;go_ret;exact⟨rfl,rfl⟩
def okPre:Bs→Bool
 | []=>true
 | c::r=>isLow c && r.all isIn
def oneD:Bs→Bool
 | [c]=>isDig c
 | _=>false
theorem tk_full:∀ (k:Nat) (r:Bs),decide (tk k r=r.length)=(r.all isIn && decide (r.length≤k))
 | 0,[]=>by simp[tk]
 | 0,c::r=>by simp[tk]
 | k+1,[]=>by simp[tk]
 | k+1,c::r=>by
   have ih:=tk_full k r;rw[tk_cons];by_cases hc:isIn c=true
   ·rw[if_pos hc];simp only[List.all_cons,hc,Bool.true_and,List.length_cons,Nat.add_le_add_iff_right,Nat.add_right_cancel_iff];exact ih
   ·rw[if_neg hc];simp[hc]
theorem dig_low:∀ c:UInt8,isDig c=true→isLow c=false:=all256 _ (by decide+kernel)
theorem isName_eq (l:Bs):isName l=(oneD l || (okPre l && decide (1≤l.length) && decide (l.length≤8))):=by
 cases l with
 | nil=>rfl
 | cons c r=>
   have e:isName (c::r)=decide (nameLen (c::r)=r.length+1):=by unfold isName;simp
   rw[e,nameLen_cons];by_cases h1:isDig c=true
   ·rw[if_pos h1]
    cases r with
    | nil=>simp[oneD,h1]
    | cons d r=>simp[oneD,okPre,dig_low c h1]
   ·rw[if_neg h1]
    have ho:oneD (c::r)=false:=by cases r with
     | nil=>simp[oneD,h1]
     | cons d r=>rfl
    rw[ho];by_cases h2:isLow c=true
    ·have:=tk_full 7 r
     rw[if_pos h2];simp only[okPre,h2,Bool.true_and,Bool.false_or,Nat.add_right_cancel_iff,List.length_cons];rw[this];simp
    ·rw[if_neg h2];simp[okPre,h2]
theorem okPre_take (s:ByteArray) (k:Nat) (hk:k<s.size):okPre (s.data.toList.take (k+1))=(okPre (s.data.toList.take k) && (if k=0 then isLow s[k] else isIn s[k])):=by
 have e:s.data.toList.take (k+1)=s.data.toList.take k++[s[k]]:=by
  rw[List.take_succ_eq_append_getElem (by simpa using hk)];rfl
 rw[e]
 cases k with
 | zero=>simp[okPre]
 | succ k=>
   cases h:s.data.toList with
   | nil=>have:=len_data s;rw[h] at this;simp at this;omega
   | cons c r=>simp[okPre,List.all_append,Bool.and_assoc]
theorem okPre_mono (l:Bs) (k:Nat) (h:okPre l=true):okPre (l.take k)=true:=by
 cases l with
 | nil=>simpa using h
 | cons c r=>
   cases k with
   | zero=>rfl
   | succ k=>
     rw[List.take_succ_cons];simp only[okPre,Bool.and_eq_true,List.all_eq_true] at h ⊢;exact⟨h.1,fun x hx=>h.2 x (List.mem_of_mem_take hx)⟩
theorem rname_any (s:ByteArray) (hs:s.size≤4611686018427387904) (w:World):
  Calls Tryz.prog 26 #[.string s] w fun e w'=>e= .returned (.bool (isName s.data.toList))∧w=w':=by
 rw[isName_eq,len_data];have ho:oneD s.data.toList=true∨oneD s.data.toList=false:=by cases oneD s.data.toList <;> simp
 obtain⟨v,hv⟩:∃ v,v=(oneD s.data.toList || (okPre s.data.toList && decide (1≤s.size) && decide (s.size≤8))):=⟨_,rfl⟩;rw[←hv];have HV:=Lib.hid hv;clear hv;by_cases h1:s.size=1
 ·have hlt:0<s.size:=by omega
  have hd:=drop_at s 0 hlt;rw[drop0,drop_end s 1 (by omega)] at hd;have e1:oneD s.data.toList=isDig s[0]:=by rw[hd];rfl
  rw[e1] at ho;have b1:(s.size==1)=true:=by simp[h1]
  have b2:((s.size:Int)==1)=true:=by simp[h1]
  rcases ho with h | h
  ·have hx:48≤(s[0].toNat:Int)∧(s[0].toNat:Int)≤57:=by simpa[isDig] using h
   obtain⟨x1,x2⟩:=hx;have HR:Hid (v=true):=by apply Lib.hid;rw[HV.out,e1,h];rfl
   clear hd e1 h HV h1;go_enter Tryz.func26,Tryz.ntmps26;go_wp2;go_ret;exact⟨ret_bool (by rw[HR.out]),rfl⟩
  ·have hx:¬ (48≤(s[0].toNat:Int)∧(s[0].toNat:Int)≤57):=by simpa[isDig] using h
   have HR:Hid (v=isLow s[0]):=by apply Lib.hid;rw[HV.out,e1,h,hd];simp[okPre,h1]
   have KL:=Lib.hid fun w=>small_no s[0] w
   have H1:=Lib.hid h1;clear hd e1 h HV h1;have hx2:(s[0].toNat:Int)<48∨48≤(s[0].toNat:Int)∧57<(s[0].toNat:Int):=by omega
   clear hx;by_cases hl:isLow s[0]=true
   ·rw[hl] at KL
    have HR2:Hid (v=true):=by apply Lib.hid;rw[HR.out,hl]
    clear HR hl
    rcases hx2 with hx2 | ⟨hx2,hx3⟩
    all_goals
     go_enter Tryz.func26,Tryz.ntmps26;go_wp2
     go_loop [3] (fun n=>∃ k:Nat,(k=0∨k=1)∧n= .int .i64 k) (fun n=>1 - (intOf n).toNat)
     case atStart=>exact⟨0,.inl rfl,rfl⟩
     case round=>
      obtain⟨k,(rfl | rfl),rfl⟩:=hrel
      ·go_wp2_with (go_at_call 54;((with_reducible refine(KL.out _).mono ?_));rintro e w' ⟨rfl,rfl⟩)
       go_round
       case rel=>exact⟨1,.inr rfl,rfl⟩
       case measure=>simp[intOf]
      ·have l1:¬ 1<s.size:=by have:=H1.out;omega
       have l2:s.size≤8:=by have:=H1.out;omega
       go_wp2;go_ret;exact⟨ret_bool (by rw[HR2.out];simp;omega),rfl⟩
   ·rw[Bool.eq_false_iff.2 hl] at KL
    have HR2:Hid (v=false):=by apply Lib.hid;rw[HR.out,Bool.eq_false_iff.2 hl]
    clear HR hl
    rcases hx2 with hx2 | ⟨hx2,hx3⟩
    all_goals
     go_enter Tryz.func26,Tryz.ntmps26;go_wp2
     go_loop [3] (fun n=>n= .int .i64 0) (fun n=>1 - (intOf n).toNat)
     case atStart=>exact rfl
     case round=>
      obtain rfl:=hrel;go_wp2_with (go_at_call 54;((with_reducible refine(KL.out _).mono ?_));rintro e w' ⟨rfl,rfl⟩);go_ret;exact⟨ret_bool (by rw[HR2.out]),rfl⟩
 ·have b1:(s.size==1)=false:=by simpa using h1
  have b2:((s.size:Int)==1)=false:=by simp;omega
  have e1:oneD s.data.toList=false:=by
   cases h:s.data.toList with
   | nil=>rfl
   | cons c r=>
     cases r with
     | nil=>have:=len_data s;rw[h] at this;simp at this;omega
     | cons d r=>rfl
  have HR:Hid (v=(okPre s.data.toList && decide (1≤s.size) && decide (s.size≤8))):=by apply Lib.hid;rw[HV.out,e1];rfl
  clear e1 HV ho h1;go_enter Tryz.func26,Tryz.ntmps26;go_wp2
  go_loop [3] (fun n=>∃ k:Nat,k≤s.size∧n= .int .i64 k∧okPre (s.data.toList.take k)=true) (fun n=>s.size - (intOf n).toNat)
  case atStart=>exact⟨0,by omega,rfl,rfl⟩
  case round=>
   obtain⟨k,hk,rfl,hok⟩:=hrel;by_cases a:k<s.size
   ·have ht:=okPre_take s k a
    rw[hok] at ht;by_cases hz:k=0
    ·subst hz
     rw[if_pos rfl] at ht;have KL:=Lib.hid fun w=>small_no s[0] w
     by_cases hl:isLow s[0]=true
     ·rw[hl] at KL
      have HX:Hid (okPre (s.data.toList.take 1)=true):=by apply Lib.hid;rw[ht,hl];rfl
      clear ht hl hok;go_wp2_with (go_at_call 54;((with_reducible refine(KL.out _).mono ?_));rintro e w' ⟨rfl,rfl⟩)
      go_round
      case rel=>exact⟨1,by omega,rfl,HX.out⟩
      case measure=>simp[intOf];omega
     ·rw[Bool.eq_false_iff.2 hl] at KL ht
      have HX:Hid (v=false):=by
       apply Lib.hid;rw[HR.out];by_cases ho:okPre s.data.toList=true
       ·have:=okPre_mono _ 1 ho;rw[ht] at this;simp at this
       ·simp[ho]
      clear ht hl hok;go_wp2_with (go_at_call 54;((with_reducible refine(KL.out _).mono ?_));rintro e w' ⟨rfl,rfl⟩);go_ret;exact⟨ret_bool (by rw[HX.out]),rfl⟩
    ·rw[if_neg hz] at ht
     have hz':0<k:=by omega
     have KL:=Lib.hid fun w=>small_yes s[k] w
     by_cases hl:isIn s[k]=true
     ·rw[hl] at KL
      have HX:Hid (okPre (s.data.toList.take (k+1))=true):=by apply Lib.hid;rw[ht,hl];rfl
      clear ht hl hok hz;go_wp2_with (go_at_call 54;((with_reducible refine(KL.out _).mono ?_));rintro e w' ⟨rfl,rfl⟩)
      go_round
      case rel=>exact⟨k+1,by omega,by go_num,HX.out⟩
      case measure=>simp[intOf];omega
     ·rw[Bool.eq_false_iff.2 hl] at KL ht
      have HX:Hid (v=false):=by
       apply Lib.hid;rw[HR.out];by_cases ho:okPre s.data.toList=true
       ·have:=okPre_mono _ (k+1) ho;rw[ht] at this;simp at this
       ·simp[ho]
      clear ht hl hok hz;go_wp2_with (go_at_call 54;((with_reducible refine(KL.out _).mono ?_));rintro e w' ⟨rfl,rfl⟩);go_ret;exact⟨ret_bool (by rw[HX.out]),rfl⟩
   ·have HX:Hid (v=(decide (1≤s.size) && decide (s.size≤8))):=by
     apply Lib.hid;rw[HR.out];rw[List.take_of_length_le (by rw[len_data];omega)] at hok;rw[hok];rfl
    clear hok;by_cases c1:1≤s.size
    ·by_cases c2:s.size≤8
     ·have HY:Hid (v=true):=by apply Lib.hid;rw[HX.out];simp[c1,c2]
      go_wp2;go_ret;exact⟨ret_bool (by rw[HY.out];simp;omega),rfl⟩
     ·have HY:Hid (v=false):=by apply Lib.hid;rw[HX.out];simp[c2]
      go_wp2;go_ret;exact⟨ret_bool (by rw[HY.out];simp;omega),rfl⟩
    ·have HY:Hid (v=false):=by apply Lib.hid;rw[HX.out];simp[c1]
     go_wp2;go_ret;exact⟨ret_bool (by rw[HY.out]),rfl⟩
theorem below_drewN {B:Nat} {a w:World} (h:Below B a w) (n:Nat):Below B a (w.drewN n):=⟨h.os,h.tape,h.output,h.size,h.block⟩
def resE (i:Nat):Step→Value
 | .bad k=> .tuple #[.int .u8 0,.int .i64 (-1),.int .i64 ((i+k:Nat):Int)]
 | .byte b k=> .tuple #[.int .u8 b.toNat,.int .i64 ((k:Int) - 1),.int .i64 0]
 | _=> .tuple #[]
theorem at_is (s:ByteArray) (p:Nat) (hp:p<s.size) (n:Int) (hn:n=s[p].toNat) (w:World):
  Calls Tryz.prog 125 #[.string s,.int .i64 p] w fun e w'=>e= .returned (.int .u8 n)∧w=w':=by
 rw[hn];exact at_lt s p hp w
theorem digit_is (c:UInt8) (v:Int) (hv:hexD c=v) (w:World):Calls Tryz.prog 142 #[.int .u8 c.toNat] w fun e w'=>e= .returned (.int .i64 v)∧w=w':=by
 rw[←hv];exact digit_any c w
theorem quiet_left {P:Program} {f:FuncId} {args:Array Value} {w:World} {n:Nat} {v:Value}
  (h:Calls P f args (w.drewN n) fun e w'=>e= .returned v∧w.drewN n=w'):Calls P f args (w.drewN n) fun e w''=>e= .returned v∧∃ m,w''=w.drewN m:=
 h.mono fun _ _ ⟨he,hm⟩=>⟨he,n,hm.symm⟩
theorem escape_letter (s:ByteArray) (i p:Nat) (hi:p<s.size) (b:UInt8) (hb:escD s[p]=some b) (h120:s[p]≠120) (w:World):
  Calls Tryz.prog 127 #[.string s,.int .i64 p] w fun e w'=>e= .returned (resE i (stepEsc (s.data.toList.drop p)))∧Below w.heap.size w w':=by
 rw[drop_at s p hi,esc_mk _ b _ h120 hb];have hc:∃ c,c=s[p]:=⟨_,rfl⟩;obtain⟨c,hc⟩:=hc;rw[←hc] at hb h120
 have key:∀ n:Int,n=(c.toNat:Int)→(n=110∧b=10)∨(n=114∧b=13)∨(n=116∧b=9)∨(n=34∧b=34)∨(n=92∧b=92)∨(n=36∧b=36):=by
  intro n hn;unfold escD at hb
  split at hb
  ·rename_i h;subst h;injection hb with hb;exact .inl ⟨hn,hb.symm⟩
  ·split at hb
   ·rename_i h;subst h;injection hb with hb;exact .inr (.inl ⟨hn,hb.symm⟩)
   ·split at hb
    ·rename_i h;subst h;injection hb with hb;exact .inr (.inr (.inl ⟨hn,hb.symm⟩))
    ·split at hb
     ·rename_i h;subst h;injection hb with hb;exact .inr (.inr (.inr (.inl ⟨hn,hb.symm⟩)))
     ·split at hb
      ·rename_i h;subst h;injection hb with hb;exact .inr (.inr (.inr (.inr (.inl ⟨hn,hb.symm⟩))))
      ·split at hb
       ·rename_i h;subst h;injection hb with hb;exact .inr (.inr (.inr (.inr (.inr ⟨hn,hb.symm⟩))))
       ·cases hb
 have K:=Lib.hid fun n hn w=>at_is s p hi n hn w
 obtain⟨n,hn⟩:∃ n:Int,n=(c.toNat:Int):=⟨_,rfl⟩;have K':=Lib.hid fun w=>K.out n (hn.trans (by rw[hc])) w
 have key':=key n hn;clear key hn hc hb h120 K
 rcases key' with ⟨rfl,rfl⟩ | ⟨rfl,rfl⟩ | ⟨rfl,rfl⟩ | ⟨rfl,rfl⟩ | ⟨rfl,rfl⟩ | ⟨rfl,rfl⟩
 all_goals
  go_enter Tryz.func127,Tryz.ntmps127;go_wp2_with (go_at_call 125;((with_reducible refine(K'.out _).mono ?_));rintro e w' ⟨rfl,rfl⟩)
  go_ret3
  exact⟨rfl,Below.refl _ _⟩
theorem escape_none (s:ByteArray) (i p:Nat) (hp:p=i+1) (hi:p<s.size) (hb:escD s[p]=none) (h120:s[p]≠120) (w:World):
  Calls Tryz.prog 127 #[.string s,.int .i64 p] w fun e w'=>e= .returned (resE i (stepEsc (s.data.toList.drop p)))∧Below w.heap.size w w':=by
 rw[drop_at s p hi,stepEsc_no h120 hb];have HR:Hid (resE i (.bad 1)= .tuple #[.int .u8 0,.int .i64 (-1),.int .i64 p]):=by apply Lib.hid;rw[hp];rfl
 rw[HR.out]
 have hne:s[p]≠110∧s[p]≠114∧s[p]≠116∧s[p]≠34∧s[p]≠92∧s[p]≠36:=by
  refine⟨?_,?_,?_,?_,?_,?_⟩ <;> (intro e;rw[e] at hb;revert hb;decide)
 obtain⟨e1,e2,e3,e4,e5,e6⟩:=hne;obtain⟨n,hn⟩:∃ n:Int,n=(s[p].toNat:Int):=⟨_,rfl⟩;have f1:(n==110)=false:=by rw[hn];exact byte_ne (n:=110) e1 (by omega)
 have f2:(n==114)=false:=by rw[hn];exact byte_ne (n:=114) e2 (by omega)
 have f3:(n==116)=false:=by rw[hn];exact byte_ne (n:=116) e3 (by omega)
 have f4:(n==34)=false:=by rw[hn];exact byte_ne (n:=34) e4 (by omega)
 have f5:(n==92)=false:=by rw[hn];exact byte_ne (n:=92) e5 (by omega)
 have f6:(n==36)=false:=by rw[hn];exact byte_ne (n:=36) e6 (by omega)
 have f7:(n==120)=false:=by rw[hn];exact byte_ne (n:=120) h120 (by omega)
 have f8:(n != 120)=true:=by simp[bne,f7]
 have K:=Lib.hid fun w=>at_is s p hi n hn w
 clear hn e1 e2 e3 e4 e5 e6 hb h120 hp;go_enter Tryz.func127,Tryz.ntmps127;go_wp2_with (go_at_call 125;((with_reducible refine(K.out _).mono ?_));rintro e w' ⟨rfl,rfl⟩)
 go_ret3
 exact⟨rfl,Below.refl _ _⟩
theorem escape_end (s:ByteArray) (i p:Nat) (hp:p=i+1) (hi:p=s.size) (w:World):
  Calls Tryz.prog 127 #[.string s,.int .i64 p] w fun e w'=>e= .returned (resE i (stepEsc (s.data.toList.drop p)))∧Below w.heap.size w w':=by
 rw[drop_end s p (by omega)];have HR:Hid (resE i (stepEsc [])= .tuple #[.int .u8 0,.int .i64 (-1),.int .i64 p]):=by apply Lib.hid;rw[hp];rfl
 rw[HR.out];subst hi;have K:=Lib.hid fun w=>at_ge s s.size (by omega) w
 clear hp;go_enter Tryz.func127,Tryz.ntmps127;go_wp2_with (go_at_call 125;((with_reducible refine(K.out _).mono ?_));rintro e w' ⟨rfl,rfl⟩)
 go_ret3
 exact⟨rfl,Below.refl _ _⟩
theorem stepEsc_x (r:Bs):stepEsc (120::r)=stepHex r:=rfl
theorem lookH_cons (s:ByteArray) (i:Nat) (h:i<s.size):lookH (s.data.toList.drop i)=hexD s[i]:=by rw[drop_at s i h];rfl
def Two (v:Value):Prop:=v= .int .i64 1∨v= .int .i64 2
def Three (v:Value):Prop:=v= .int .i64 1∨v= .int .i64 2∨v= .int .i64 3
theorem escape_hex1 (s:ByteArray) (p:Nat) (hi:p<s.size) (hs:s.size≤4611686018427387904) (h120:s[p]=120) (h:lookH (s.data.toList.drop (p+1))<0) (w:World):
  Calls Tryz.prog 127 #[.string s,.int .i64 p] w fun e w'=>e= .returned (.tuple #[.int .u8 0,.int .i64 (-1),.int .i64 ((p:Int)+1)])∧w=w':=by
 have K:=Lib.hid fun w=>at_is s p hi 120 (by rw[h120];rfl) w
 clear h120;by_cases h1:p+1<s.size
 ·rw[lookH_cons s (p+1) h1] at h
  obtain⟨v,hv⟩:∃ v,hexD s[p+1]=v:=⟨_,rfl⟩;have K1:=Lib.hid fun w=>digit_is s[p+1] v hv w
  rw[hv] at h;clear hv;go_enter Tryz.func127,Tryz.ntmps127;go_wp2_with (go_at_call 125;((with_reducible refine(K.out _).mono ?_));rintro e w' ⟨rfl,rfl⟩)
  go_loop [8] (fun k=>k= .int .i64 1) (fun _=>0)
  case atStart=>exact rfl
  case round=>
   obtain rfl:=hrel;go_wp2_with (go_at_call 142;((with_reducible refine(K1.out _).mono ?_));rintro e w' ⟨rfl,rfl⟩)
   go_ret3
   exact⟨rfl,rfl⟩
 ·clear h
  go_enter Tryz.func127,Tryz.ntmps127;go_wp2_with (go_at_call 125;((with_reducible refine(K.out _).mono ?_));rintro e w' ⟨rfl,rfl⟩)
  go_loop [8] (fun k=>k= .int .i64 1) (fun _=>0)
  case atStart=>exact rfl
  case round=>
   obtain rfl:=hrel;go_wp2
   go_ret3
   exact⟨rfl,rfl⟩
theorem escape_hex2 (s:ByteArray) (p:Nat) (hi:p+1<s.size) (hs:s.size≤4611686018427387904) (h120:s[p]=120) (h:¬ hexD s[p+1]<0) (h':lookH (s.data.toList.drop (p+2))<0) (w:World):
  Calls Tryz.prog 127 #[.string s,.int .i64 p] w fun e w'=>e= .returned (.tuple #[.int .u8 0,.int .i64 (-1),.int .i64 ((p:Int)+2)])∧w=w':=by
 have K:=Lib.hid fun w=>at_is s p (by omega) 120 (by rw[h120];rfl) w
 clear h120;have hdz:decide (s.size≤p)=false:=by simp;omega
 obtain⟨v,hv⟩:∃ v,hexD s[p+1]=v:=⟨_,rfl⟩;have K1:=Lib.hid fun w=>digit_is s[p+1] v hv w
 rw[hv] at h;clear hv;by_cases h1:p+2<s.size
 ·rw[lookH_cons s (p+2) h1] at h'
  obtain⟨u,hu⟩:∃ u,hexD s[p+2]=u:=⟨_,rfl⟩;have K2:=Lib.hid fun w=>digit_is s[p+2] u hu w
  rw[hu] at h';clear hu;go_enter Tryz.func127,Tryz.ntmps127;go_wp2_with (go_at_call 125;((with_reducible refine(K.out _).mono ?_));rintro e w' ⟨rfl,rfl⟩)
  go_loop [8] (fun k=>Two k) (fun k=>2 - (intOf k).toNat)
  case atStart=>exact .inl rfl
  case round=>
   rcases hrel with rfl | rfl
   ·go_wp2_with (go_at_call 142;((with_reducible refine(K1.out _).mono ?_));rintro e w' ⟨rfl,rfl⟩)
    go_round
    case rel=>exact .inr rfl
    case measure=>simp[intOf]
   ·go_wp2_with (go_at_call 142;((with_reducible refine(K2.out _).mono ?_));rintro e w' ⟨rfl,rfl⟩)
    go_ret3
    exact⟨rfl,rfl⟩
 ·clear h'
  go_enter Tryz.func127,Tryz.ntmps127;go_wp2_with (go_at_call 125;((with_reducible refine(K.out _).mono ?_));rintro e w' ⟨rfl,rfl⟩)
  go_loop [8] (fun k=>Two k) (fun k=>2 - (intOf k).toNat)
  case atStart=>exact .inl rfl
  case round=>
   rcases hrel with rfl | rfl
   ·go_wp2_with (go_at_call 142;((with_reducible refine(K1.out _).mono ?_));rintro e w' ⟨rfl,rfl⟩)
    go_round
    case rel=>exact .inr rfl
    case measure=>simp[intOf]
   ·go_wp2
    go_ret3
    exact⟨rfl,rfl⟩
theorem escape_hex3 (s:ByteArray) (p:Nat) (hi:p+2<s.size) (hs:s.size≤4611686018427387904) (h120:s[p]=120) (h:¬ hexD s[p+1]<0) (h':¬ hexD s[p+2]<0) (w:World):
  Calls Tryz.prog 127 #[.string s,.int .i64 p] w fun e w'=>e= .returned (.tuple #[.int .u8 (hexD s[p+1] * 16+hexD s[p+2]),.int .i64 3,.int .i64 0])∧∃ n,w'=w.drewN n:=by
 have K:=Lib.hid fun w=>at_is s p (by omega) 120 (by rw[h120];rfl) w
 clear h120;have hdz:decide (s.size≤p)=false:=by simp;omega
 have hb1:=hexD_bd s[p+1];have hb2:=hexD_bd s[p+2];obtain⟨v,hv⟩:∃ v,hexD s[p+1]=v:=⟨_,rfl⟩;have K1:=Lib.hid fun w=>digit_is s[p+1] v hv w
 rw[hv] at h hb1 ⊢;obtain⟨u,hu⟩:∃ u,hexD s[p+2]=u:=⟨_,rfl⟩;have K2:=Lib.hid fun w=>digit_is s[p+2] u hu w
 rw[hu] at h' hb2 ⊢;obtain⟨_,b12⟩:=hb1;obtain⟨_,b22⟩:=hb2;clear hu hv;go_enter Tryz.func127,Tryz.ntmps127;go_wp2_with (go_at_call 125;((with_reducible refine(K.out _).mono ?_));rintro e w' ⟨rfl,rfl⟩)
 go_loop [8] (fun k=>Three k) (fun k=>3 - (intOf k).toNat)
 case atStart=>exact .inl rfl
 case round=>
  rcases hrel with rfl | rfl | rfl
  ·go_wp2_with (go_at_call 142;((with_reducible refine(K1.out _).mono ?_));rintro e w' ⟨rfl,rfl⟩)
   go_round
   case rel=>exact .inr (.inl rfl)
   case measure=>simp[intOf]
  ·go_wp2_with (go_at_call 142;((with_reducible refine(K2.out _).mono ?_));rintro e w' ⟨rfl,rfl⟩)
   go_round
   case rel=>exact .inr (.inr rfl)
   case measure=>simp[intOf]
  ·have q1:IntKind.i64.wrap ((p:Int)+1)=(p:Int)+1:=IntWalk.i64_in _ (by omega)
   have q2:IntKind.i64.wrap ((p:Int)+2)=(p:Int)+2:=IntWalk.i64_in _ (by omega);have q3:0≤(p:Int)+1:=by omega
   have q4:0≤(p:Int)+2:=by omega
   have q5:((p:Int)+1).toNat=p+1:=by omega
   have q6:((p:Int)+2).toNat=p+2:=by omega
   have q7:(p:Int)+1<s.size:=by omega
   have q8:(p:Int)+2<s.size:=by omega
   have q9:p+1<s.size:=by omega
   have q10:IntKind.i64.wrap (v * 16)=v * 16:=IntWalk.i64_in _ (by omega);have q11:IntKind.i64.wrap (v * 16+u)=v * 16+u:=IntWalk.i64_in _ (by omega);have q12:IntKind.u8.wrap (v * 16+u)=v * 16+u:=IntWalk.u8_in _ (by omega);go_wp2;go_quiet ((go_at_call 142;(first | (with_reducible exact quiet_left (K1.out _)) | (with_reducible exact quiet_left (K2.out _)))));go_wp2
   go_ret3
   exact⟨rfl,_,rfl⟩
theorem escape_any (s:ByteArray) (i p:Nat) (hp:p=i+1) (hi:p≤s.size) (hs:s.size≤4611686018427387904) (w:World):
  Calls Tryz.prog 127 #[.string s,.int .i64 p] w fun e w'=>e= .returned (resE i (stepEsc (s.data.toList.drop p)))∧Below w.heap.size w w':=by
 by_cases hlt:p<s.size
 ·by_cases hx:s[p]=120
  ·have hd:=drop_at s p hlt
   rw[hx] at hd;have e:=stepHex_eq (s.data.toList.drop (p+1));have ht:(s.data.toList.drop (p+1)).tail=s.data.toList.drop (p+2):=by simp
   rw[ht] at e;by_cases h1:lookH (s.data.toList.drop (p+1))<0
   ·rw[if_pos h1] at e
    refine(escape_hex1 s p hlt hs hx h1 w).mono fun e' w' ⟨he,hw⟩=>⟨?_,?_⟩
    ·rw[he,hd,stepEsc_x,e];simp only[resE];congr;omega
    ·rw[hw];exact Below.refl _ _
   ·rw[if_neg h1] at e
    have l1:=lookH_lt s (p+1) h1;have v1:hexD s[p+1]=lookH (s.data.toList.drop (p+1)):=(lookH_cons s (p+1) l1).symm;by_cases h2:lookH (s.data.toList.drop (p+2))<0
    ·rw[if_pos h2] at e
     refine(escape_hex2 s p l1 hs hx (by rw[v1];exact h1) h2 w).mono fun e' w' ⟨he,hw⟩=>⟨?_,?_⟩
     ·rw[he,hd,stepEsc_x,e];simp only[resE];congr;omega
     ·rw[hw];exact Below.refl _ _
    ·rw[if_neg h2] at e
     have l2:=lookH_lt s (p+2) h2;have v2:hexD s[p+2]=lookH (s.data.toList.drop (p+2)):=(lookH_cons s (p+2) l2).symm;refine(escape_hex3 s p l2 hs hx (by rw[v1];exact h1) (by rw[v2];exact h2) w).mono fun e' w' ⟨he,n,hw⟩=>⟨?_,?_⟩
     ·have b1:=lookH_bd (s.data.toList.drop (p+1))
      have b2:=lookH_bd (s.data.toList.drop (p+2));rw[he,hd,stepEsc_x,e,v1,v2];generalize lookH (s.data.toList.drop (p+1))=a at *;generalize lookH (s.data.toList.drop (p+2))=b at *
      have e:((UInt8.ofNat (a * 16+b).toNat).toNat:Int)=a * 16+b:=by
       rw[UInt8.toNat_ofNat'];omega
      simp only[resE,e];rfl
     ·rw[hw];exact below_drewN (Below.refl _ _) n
  ·cases hb:escD s[p] with
   | none=>exact escape_none s i p hp hlt hb hx w
   | some b=>exact escape_letter s i p hlt b hb hx w
 ·exact escape_end s i p hp (by omega) w
def resF (i:Nat):Step→Value
 | .bad k=> .tuple #[.string ⟨#[]⟩,.int .i64 (-1),.int .i64 ((i+k:Nat):Int)]
 | .var nm k=> .tuple #[.string ⟨nm.toArray⟩,.int .i64 ((k:Int) - 1),.int .i64 0]
 | _=> .tuple #[]
theorem ba_take (s:ByteArray) (a n:Nat):s.extract a (a+n)=⟨((s.data.toList.drop a).take n).toArray⟩:=by
 have h:=Lib.extract_data s a (a+n);rw[Nat.add_sub_cancel_left] at h;apply ByteArray.ext;apply Array.ext';exact h
theorem stepVar_eq (c:UInt8) (r:Bs):stepVar (c::r)=if c=123 then (if nameLen r=0 then .bad 2 else match r.drop (nameLen r) with
 | []=> .bad (2+nameLen r)
 | d::_=>if d=125 then .var (r.take (nameLen r)) (nameLen r+3) else .bad (2+nameLen r)) else .bad 1:=rfl
theorem variable_no (s:ByteArray) (p:Nat) (n:Int) (hn:(n != 123)=true)
  (K:∀ w,Calls Tryz.prog 125 #[.string s,.int .i64 p] w fun e w'=>e= .returned (.int .u8 n)∧w=w') (w:World):
  Calls Tryz.prog 126 #[.string s,.int .i64 p] w fun e w'=>e= .returned (.tuple #[.string ⟨#[]⟩,.int .i64 (-1),.int .i64 p])∧w=w':=by
 have K:=Lib.hid K;go_enter Tryz.func126,Tryz.ntmps126;go_wp2_with (go_at_call 125;((with_reducible refine(K.out _).mono ?_));rintro e w' ⟨rfl,rfl⟩)
 go_ret3
 exact⟨rfl,rfl⟩
theorem variable_first (s:ByteArray) (p:Nat) (hp:p<s.size) (hs:s.size≤4611686018427387904) (h123:s[p]=123) (h:nameLen (s.data.toList.drop (p+1))=0) (w:World):
  Calls Tryz.prog 126 #[.string s,.int .i64 p] w fun e w'=>e= .returned (.tuple #[.string ⟨#[]⟩,.int .i64 (-1),.int .i64 ((p:Int)+1)])∧w=w':=by
 have K:=Lib.hid fun w=>at_is s p hp 123 (by rw[h123];rfl) w
 clear h123;by_cases h1:p+1<s.size
 ·obtain⟨n,hn⟩:∃ n:Int,n=(s[p+1].toNat:Int):=⟨_,rfl⟩
  have K1:Hid (∀ w,Calls Tryz.prog 125 #[.string s,.int .i64 ((p:Int)+1)] w fun e w'=>e= .returned (.int .u8 n)∧w=w'):=Lib.hid fun w=>at_is s (p+1) h1 n hn w
  have K2:=Lib.hid fun w=>small_no s[p+1] w
  rw[drop_at s (p+1) h1,nameLen_cons] at h
  have hd:isDig s[p+1]=false:=by
   cases hd:isDig s[p+1] with
   | false=>rfl
   | true=>rw[hd] at h;simp at h
  have hl:isLow s[p+1]=false:=by
   cases hl:isLow s[p+1] with
   | false=>rfl
   | true=>rw[hd,hl] at h;simp at h
  rw[hl,←hn] at K2;have hx:¬ (48≤n∧n≤57):=by rw[hn];simpa[isDig] using hd
  have hx2:(n<48∧decide (n≤57)=true)∨(48≤n∧decide (n≤57)=false):=by simp;omega
  clear h hd hl hx hn
  rcases hx2 with ⟨hx2,hx3⟩ | ⟨hx2,hx3⟩
  all_goals
   go_enter Tryz.func126,Tryz.ntmps126;go_wp2_with (first | (go_at_call 125;(first | ((with_reducible refine(K.out _).mono ?_);rintro e w' ⟨rfl,rfl⟩) | ((with_reducible refine(K1.out _).mono ?_);rintro e w' ⟨rfl,rfl⟩))) | (go_at_call 54;((with_reducible refine(K2.out _).mono ?_));rintro e w' ⟨rfl,rfl⟩))
   go_ret3
   exact⟨rfl,rfl⟩
 ·have K1:Hid (∀ w,Calls Tryz.prog 125 #[.string s,.int .i64 ((p:Int)+1)] w fun e w'=>e= .returned (.int .u8 0)∧w=w'):=Lib.hid fun w=>at_ge s (p+1) h1 w
  clear h;go_enter Tryz.func126,Tryz.ntmps126;go_wp2_with (go_at_call 125;(first | ((with_reducible refine(K.out _).mono ?_);rintro e w' ⟨rfl,rfl⟩) | ((with_reducible refine(K1.out _).mono ?_);rintro e w' ⟨rfl,rfl⟩)))
  go_ret3
  exact⟨rfl,rfl⟩
def EndV (s:ByteArray) (p N:Nat) (x:Int) (w:World) (e:Ending) (w':World):Prop:=
 e= .returned (if x=125 then .tuple #[.string (s.extract (p+1) (p+1+N)),.int .i64 ((N:Int)+2),.int .i64 0] else .tuple #[.string ⟨#[]⟩,.int .i64 (-1),.int .i64 ((p:Int)+1+N)])∧w=w'
theorem ret_vno {a b c d:Int} (h:a=b) (g:c=d):Ending.returned (.tuple #[.string ⟨#[]⟩,.int .i64 a,.int .i64 c])= .returned (.tuple #[.string ⟨#[]⟩,.int .i64 b,.int .i64 d]):=by rw[h,g]
theorem ret_vyes {a b:ByteArray} {c d:Int} (h:a=b) (g:c=d):Ending.returned (.tuple #[.string a,.int .i64 c,.int .i64 0])= .returned (.tuple #[.string b,.int .i64 d,.int .i64 0]):=by rw[h,g]
theorem variable_digit (s:ByteArray) (p:Nat) (hp:p+1<s.size) (hs:s.size≤4611686018427387904) (h123:s[p]=123) (h:isDig s[p+1]=true) (x:Int)
  (KX:∀ w,Calls Tryz.prog 125 #[.string s,.int .i64 ((p:Int)+2)] w fun e w'=>e= .returned (.int .u8 x)∧w=w') (w:World):
  Calls Tryz.prog 126 #[.string s,.int .i64 p] w (EndV s p 1 x w):=by
 have K:=Lib.hid fun w=>at_is s p (by omega) 123 (by rw[h123];rfl) w
 have KX:=Lib.hid KX;clear h123;obtain⟨n,hn⟩:∃ n:Int,n=(s[p+1].toNat:Int):=⟨_,rfl⟩;have K1:Hid (∀ w,Calls Tryz.prog 125 #[.string s,.int .i64 ((p:Int)+1)] w fun e w'=>e= .returned (.int .u8 n)∧w=w'):=Lib.hid fun w=>at_is s (p+1) hp n hn w
 have K2:=Lib.hid fun w=>small_no s[p+1] w
 have hl:=dig_low _ h;rw[hl,←hn] at K2;have hx:48≤n∧n≤57:=by rw[hn];simpa[isDig] using h
 obtain⟨x1,x2⟩:=hx;clear hl h hn;by_cases hx:x=125
 ·subst hx
  go_enter Tryz.func126,Tryz.ntmps126;go_wp2_with (first | (go_at_call 125;(first | ((with_reducible refine(K.out _).mono ?_);rintro e w' ⟨rfl,rfl⟩) | ((with_reducible refine(K1.out _).mono ?_);rintro e w' ⟨rfl,rfl⟩) | ((with_reducible refine(KX.out _).mono ?_);rintro e w' ⟨rfl,rfl⟩))) | (go_at_call 54;((with_reducible refine(K2.out _).mono ?_));rintro e w' ⟨rfl,rfl⟩))
  go_ret3
  exact⟨by rw[if_pos rfl];exact ret_vyes rfl (by omega),rfl⟩
 ·have hx1:(x != 125)=true:=by simpa using hx
  have hx3:(x==125)=false:=by simpa using hx
  go_enter Tryz.func126,Tryz.ntmps126;go_wp2_with (first | (go_at_call 125;(first | ((with_reducible refine(K.out _).mono ?_);rintro e w' ⟨rfl,rfl⟩) | ((with_reducible refine(K1.out _).mono ?_);rintro e w' ⟨rfl,rfl⟩) | ((with_reducible refine(KX.out _).mono ?_);rintro e w' ⟨rfl,rfl⟩))) | (go_at_call 54;((with_reducible refine(K2.out _).mono ?_));rintro e w' ⟨rfl,rfl⟩))
  go_ret3
  exact⟨by rw[if_neg hx];exact ret_vno rfl (by omega),rfl⟩
theorem variable_low (s:ByteArray) (p N:Nat) (hp:p+1<s.size) (hs:s.size≤4611686018427387904) (h123:s[p]=123) (h:isLow s[p+1]=true) (hN:N=tk 7 (s.data.toList.drop (p+2))+1) (x:Int)
  (KX:∀ (a:Int),a=(p:Int)+1+N→∀ w,Calls Tryz.prog 125 #[.string s,.int .i64 a] w fun e w'=>e= .returned (.int .u8 x)∧w=w') (w:World):
  Calls Tryz.prog 126 #[.string s,.int .i64 p] w (EndV s p N x w):=by
 have K:=Lib.hid fun w=>at_is s p (by omega) 123 (by rw[h123];rfl) w
 have KX:=Lib.hid KX;clear h123;obtain⟨n,hn⟩:∃ n:Int,n=(s[p+1].toNat:Int):=⟨_,rfl⟩;have K1:Hid (∀ w,Calls Tryz.prog 125 #[.string s,.int .i64 ((p:Int)+1)] w fun e w'=>e= .returned (.int .u8 n)∧w=w'):=Lib.hid fun w=>at_is s (p+1) hp n hn w
 have K2:=Lib.hid fun w=>small_no s[p+1] w
 rw[h,←hn] at K2;have HN:=Lib.hid hN;clear h hn hN;have hdz:decide (s.size≤p+1)=false:=by simp;omega
 have hdy:decide ((s.size:Int)≤(p:Int)+1)=false:=by simp;omega
 go_enter Tryz.func126,Tryz.ntmps126;go_wp2_with (first | (go_at_call 125;(first | ((with_reducible refine(K.out _).mono ?_);rintro e w' ⟨rfl,rfl⟩) | ((with_reducible refine(K1.out _).mono ?_);rintro e w' ⟨rfl,rfl⟩))) | (go_at_call 54;((with_reducible refine(K2.out _).mono ?_));rintro e w' ⟨rfl,rfl⟩))
 go_loop [8] (fun v=>∃ k:Nat,p+2≤k∧k≤p+9∧k≤s.size∧v= .int .i64 k∧N=tk (p+9 - k) (s.data.toList.drop k)+(k - (p+1))) (fun v=>p+9 - (intOf v).toNat)
 case atStart=>exact⟨p+2,by omega,by omega,by omega,by go_num,by rw[HN.out,show p+9 - (p+2)=7 by omega,show p+2 - (p+1)=1 by omega]⟩
 case round=>
  obtain⟨k,k1,k9,hk,rfl,hn⟩:=hrel;have HK:=Lib.hid hn;clear hn;by_cases a:k<s.size
  ·by_cases b:k<p+9
   ·have KI:=Lib.hid fun w=>small_yes s[k] w
    have hd:=drop_at s k a;by_cases c:isIn s[k]=true
    ·rw[c] at KI
     have HX:Hid (N=tk (p+9 - (k+1)) (s.data.toList.drop (k+1))+(k+1 - (p+1))):=by
      apply Lib.hid;rw[HK.out,hd,show p+9 - k=(p+9 - (k+1))+1 by omega,tk_cons,if_pos c];omega
     clear hd c;go_wp2_with (go_at_call 54;((with_reducible refine(KI.out _).mono ?_));rintro e w' ⟨rfl,rfl⟩)
     go_round
     case rel=>exact⟨k+1,by omega,by omega,by omega,by go_num,HX.out⟩
     case measure=>simp[intOf];omega
    ·rw[Bool.eq_false_iff.2 c] at KI
     have HX:Hid (k=p+1+N):=by
      apply Lib.hid;have h2:=HK.out;rw[hd,show p+9 - k=(p+9 - (k+1))+1 by omega,tk_cons,if_neg c] at h2;omega
     have KE:=Lib.hid (KX.out k (by have:=HX.out;omega));clear hd c;by_cases hx:x=125
     ·subst hx
      go_wp2_with (first | (go_at_call 54;((with_reducible refine(KI.out _).mono ?_));rintro e w' ⟨rfl,rfl⟩) | (go_at_call 125;((with_reducible refine(KE.out _).mono ?_));rintro e w' ⟨rfl,rfl⟩))
      go_ret3
      exact⟨by rw[if_pos rfl,←HX.out];exact ret_vyes rfl (by have:=HX.out;omega),rfl⟩
     ·have hx1:(x != 125)=true:=by simpa using hx
      go_wp2_with (first | (go_at_call 54;((with_reducible refine(KI.out _).mono ?_));rintro e w' ⟨rfl,rfl⟩) | (go_at_call 125;((with_reducible refine(KE.out _).mono ?_));rintro e w' ⟨rfl,rfl⟩))
      go_ret3
      exact⟨by rw[if_neg hx];exact ret_vno rfl (by have:=HX.out;omega),rfl⟩
   ·have HX:Hid (k=p+1+N):=by
     apply Lib.hid;have h2:=HK.out;rw[show p+9 - k=0 by omega] at h2;simp[tk] at h2;omega
    have KE:=Lib.hid (KX.out k (by have:=HX.out;omega));by_cases hx:x=125
    ·subst hx
     go_wp2_with (go_at_call 125;((with_reducible refine(KE.out _).mono ?_));rintro e w' ⟨rfl,rfl⟩)
     go_ret3
     exact⟨by rw[if_pos rfl,←HX.out];exact ret_vyes rfl (by have:=HX.out;omega),rfl⟩
    ·have hx1:(x != 125)=true:=by simpa using hx
     go_wp2_with (go_at_call 125;((with_reducible refine(KE.out _).mono ?_));rintro e w' ⟨rfl,rfl⟩)
     go_ret3
     exact⟨by rw[if_neg hx];exact ret_vno rfl (by have:=HX.out;omega),rfl⟩
  ·have HX:Hid (k=p+1+N):=by
    apply Lib.hid;have h2:=HK.out;rw[drop_end s k a] at h2;have:tk (p+9 - k) []=0:=by cases p+9 - k <;> simp[tk]
    omega
   have KE:=Lib.hid (KX.out k (by have:=HX.out;omega));by_cases hx:x=125
   ·subst hx
    go_wp2_with (go_at_call 125;((with_reducible refine(KE.out _).mono ?_));rintro e w' ⟨rfl,rfl⟩)
    go_ret3
    exact⟨by rw[if_pos rfl,←HX.out];exact ret_vyes rfl (by have:=HX.out;omega),rfl⟩
   ·have hx1:(x != 125)=true:=by simpa using hx
    go_wp2_with (go_at_call 125;((with_reducible refine(KE.out _).mono ?_));rintro e w' ⟨rfl,rfl⟩)
    go_ret3
    exact⟨by rw[if_neg hx];exact ret_vno rfl (by have:=HX.out;omega),rfl⟩
theorem at_end (s:ByteArray) (k:Nat) (x:Int) (hx:x=match s.data.toList.drop k with | []=>0 | d::_=>(d.toNat:Int)) (a:Int) (ha:a=k) (w:World):
  Calls Tryz.prog 125 #[.string s,.int .i64 a] w fun e w'=>e= .returned (.int .u8 x)∧w=w':=by
 rw[ha];by_cases h:k<s.size
 ·rw[drop_at s k h] at hx
  exact at_is s k h x hx w
 ·rw[drop_end s k h] at hx
  rw[hx];exact at_ge s k h w
theorem variable_any (s:ByteArray) (i p:Nat) (hpi:p=i+1) (hs:s.size≤4611686018427387904) (w:World):
  Calls Tryz.prog 126 #[.string s,.int .i64 p] w fun e w'=>e= .returned (resF i (stepVar (s.data.toList.drop p)))∧w=w':=by
 by_cases hlt:p<s.size
 ·have hd:=drop_at s p hlt
  by_cases h123:s[p]=123
  ·rw[hd,stepVar_eq,if_pos h123]
   by_cases h0:nameLen (s.data.toList.drop (p+1))=0
   ·rw[if_pos h0]
    refine(variable_first s p hlt hs h123 h0 w).mono fun e w' ⟨he,hw⟩=>⟨?_,hw⟩
    rw[he];simp only[resF];congr;omega
   ·rw[if_neg h0]
    obtain⟨N,hN⟩:∃ N,N=nameLen (s.data.toList.drop (p+1)):=⟨_,rfl⟩;rw[←hN] at h0 ⊢
    have h1:p+1<s.size:=by
     by_cases h1:p+1<s.size
     ·exact h1
     ·rw[drop_end s (p+1) h1] at hN;exact absurd hN h0
    have e2:(s.data.toList.drop (p+1)).drop N=s.data.toList.drop (p+1+N):=by rw[List.drop_drop]
    rw[e2];obtain⟨x,hx⟩:∃ x:Int,x=match s.data.toList.drop (p+1+N) with | []=>0 | d::_=>(d.toNat:Int):=⟨_,rfl⟩
    have KX:=at_end s (p+1+N) x hx
    have main:Calls Tryz.prog 126 #[.string s,.int .i64 p] w (EndV s p N x w):=by
     have hd1:=drop_at s (p+1) h1;rw[hd1,nameLen_cons] at hN;by_cases a:isDig s[p+1]=true
     ·rw[if_pos a] at hN
      subst hN;exact variable_digit s p h1 hs h123 a x (fun w=>KX _ (by omega) w) w
     ·rw[if_neg a] at hN
      by_cases b:isLow s[p+1]=true
      ·rw[if_pos b] at hN
       exact variable_low s p N h1 hs h123 b hN x (fun a ha w=>KX a (by omega) w) w
      ·rw[if_neg b] at hN;exact absurd hN h0
    refine main.mono fun e w' ⟨he,hw⟩=>⟨?_,hw⟩
    rw[he]
    cases hr:s.data.toList.drop (p+1+N) with
    | nil=>
      rw[hr] at hx;rw[if_neg (by rw[hx];decide)];simp only[resF];congr;omega
    | cons d t=>
      rw[hr] at hx;by_cases hd125:d=125
      ·rw[if_pos (by rw[hx,hd125];rfl)]
       simp only[if_pos hd125,resF];rw[ba_take];exact ret_vyes rfl (by omega)
      ·rw[if_neg (by rw[hx];intro e;apply hd125;rw[←UInt8.toNat_inj];show d.toNat=125;simp only at e;omega)]
       simp only[if_neg hd125,resF];congr;omega
  ·have hn:((s[p].toNat:Int) != 123)=true:=by
    have:=byte_ne (n:=123) h123 (by omega);simp only[bne];simpa using this
   rw[hd,stepVar_eq,if_neg h123];refine(variable_no s p _ hn (at_lt s p hlt) w).mono fun e w' ⟨he,hw⟩=>⟨?_,hw⟩
   rw[he,hpi];rfl
 ·rw[drop_end s p hlt]
  refine(variable_no s p 0 (by decide) (at_ge s p hlt) w).mono fun e w' ⟨he,hw⟩=>⟨?_,hw⟩
  rw[he,hpi];rfl
theorem clone_any (s:ByteArray) (hs:s.size≤281474976710656) (w:World):
  Calls Tryz.prog 71 #[.string s] w fun e w'=>e= .returned (.string s)∧Below w.heap.size w w':=by
 have K:=Lib.hid fun w=>Tryz.stringslite_Clone s w hs
 go_enter Tryz.func71,Tryz.ntmps71;go_wp2_with (go_at_call 108;((with_reducible refine(K.out _).mono ?_));rintro e w' ⟨rfl,hb⟩);go_ret;exact⟨rfl,hb⟩
def resV (i:Nat):Step→Value
 | .bad k=> .tuple #[.string ⟨#[]⟩,.int .i64 ((i+k:Nat):Int),.bool false]
 | .var nm k=> .tuple #[.string ⟨nm.toArray⟩,.int .i64 ((i+k:Nat):Int),.bool true]
 | _=> .tuple #[]
theorem ext_size (s:ByteArray) (a b:Nat) (hb:b≤s.size):(s.extract a b).size=b - a:=by
 have h:=congrArg List.length (Lib.extract_data s a b);rw[len_data,List.length_take,List.length_drop,len_data] at h;omega
theorem trip_eq {x:ByteArray} {y:Bool} {a b:Int} (h:a=b):Value.tuple #[.string x,.int .i64 a,.bool y]= .tuple #[.string x,.int .i64 b,.bool y]:=by rw[h]
theorem readvar_short (s:ByteArray) (i:Nat) (hi:i+1=s.size) (hs:s.size≤4611686018427387904) (w:World):
  Calls Tryz.prog 134 #[.string s,.int .i64 i] w fun e w'=>e= .returned (.tuple #[.string ⟨#[]⟩,.int .i64 ((i:Int)+1),.bool false])∧w=w':=by
 go_enter Tryz.func134,Tryz.ntmps134;go_wp2
 go_ret3
 exact⟨rfl,rfl⟩
theorem readvar_open (s:ByteArray) (i:Nat) (hi:i+1<s.size) (hs:s.size≤4611686018427387904) (h:s[i+1]≠123) (w:World):
  Calls Tryz.prog 134 #[.string s,.int .i64 i] w fun e w'=>e= .returned (.tuple #[.string ⟨#[]⟩,.int .i64 ((i:Int)+1),.bool false])∧w=w':=by
 have h1:((s[i+1].toNat:Int) != 123)=true:=by
  have:=byte_ne (n:=123) h (by omega);simp only[bne];simpa using this
 clear h;go_enter Tryz.func134,Tryz.ntmps134;go_wp2
 go_ret3
 exact⟨rfl,rfl⟩
theorem readvar_rest (s:ByteArray) (i n:Nat) (hi:i+1<s.size) (hs:s.size≤4611686018427387904) (h:s[i+1]=123) (hn:n=nameLen (s.data.toList.drop (i+2))) (w:World):
  Calls Tryz.prog 134 #[.string s,.int .i64 i] w fun e w'=>e= .returned (resV i (stepVar (s.data.toList.drop (i+1))))∧Below w.heap.size w w':=by
 have h1:((s[i+1].toNat:Int) != 123)=false:=by
  have:=byte_eq (n:=123) h (by omega);simp only[bne];simpa using this
 have hd:s.data.toList.drop (i+1)=123::s.data.toList.drop (i+2):=by rw[drop_at s (i+1) hi,h]
 rw[hd,stepVar_eq,if_pos rfl,←hn,List.drop_drop];have hle:=(nameLen_le (s.data.toList.drop (i+2)));rw[←hn,List.length_drop,len_data] at hle;obtain⟨hle,hn8⟩:=hle
 have e2:(s.extract (i+2) s.size).data.toList=s.data.toList.drop (i+2):=by
  rw[Lib.extract_data,List.take_of_length_le (by rw[List.length_drop,len_data];omega)]
 have hsz:=ext_size s (i+2) s.size (Nat.le_refl _);have K1:=Lib.hid fun w=>namebytes_any (s.extract (i+2) s.size) (by omega) w
 rw[e2,←hn] at K1;clear h e2 hsz;by_cases h0:n=0
 ·rw[if_pos h0]
  have HR:Hid (resV i (.bad 2)= .tuple #[.string ⟨#[]⟩,.int .i64 ((i:Int)+2),.bool false]):=by apply Lib.hid;rfl
  rw[HR.out];subst h0;clear hd hn;go_enter Tryz.func134,Tryz.ntmps134;go_wp2_with (go_at_call 77;((with_reducible refine(K1.out _).mono ?_));rintro e w' ⟨rfl,rfl⟩)
  go_ret3
  exact⟨rfl,Below.refl _ _⟩
 ·rw[if_neg h0]
  have hb:(((i:Int)+2+n)==(i:Int)+2)=false:=by simp;omega
  have hb2:((i+2+n)==i+2)=false:=by simp;omega
  have hb3:((n:Int)==0)=false:=by simp;omega
  by_cases hlt:i+2+n<s.size
  ·rw[drop_at s (i+2+n) hlt]
   have hc:(((i:Int)+2+n)==(s.size:Int))=false:=by simp;omega
   by_cases h125:s[i+2+n]=125
   ·simp only[h125,if_true]
    have hx:((s[i+2+n].toNat:Int) != 125)=false:=by
     have:=byte_eq (n:=125) h125 (by omega);simp only[bne];simpa using this
    have hl2:=ext_size s (i+2) (i+2+n) (by omega);have K2:=Lib.hid fun w=>clone_any (s.extract (i+2) (i+2+n)) (by omega) w
    have HR:Hid (resV i (.var ((s.data.toList.drop (i+2)).take n) (n+3))= .tuple #[.string (s.extract (i+2) (i+2+n)),.int .i64 ((i:Int)+2+n+1),.bool true]):=by
     apply Lib.hid;rw[ba_take];exact trip_eq (by omega)
    rw[HR.out];clear hd hn h125 hl2;go_enter Tryz.func134,Tryz.ntmps134;go_wp2_with (first | (go_at_call 77;((with_reducible refine(K1.out _).mono ?_));rintro e w' ⟨rfl,rfl⟩) | (go_at_call 71;((with_reducible refine(K2.out _).mono ?_));rintro e w' ⟨rfl,hbw⟩))
    go_ret3
    exact⟨rfl,hbw⟩
   ·simp only[if_neg h125]
    have hx:((s[i+2+n].toNat:Int) != 125)=true:=by
     have:=byte_ne (n:=125) h125 (by omega);simp only[bne];simpa using this
    have HR:Hid (resV i (.bad (2+n))= .tuple #[.string ⟨#[]⟩,.int .i64 ((i:Int)+2+n),.bool false]):=by apply Lib.hid;exact trip_eq (by omega)
    rw[HR.out];clear hd hn h125;go_enter Tryz.func134,Tryz.ntmps134;go_wp2_with (go_at_call 77;((with_reducible refine(K1.out _).mono ?_));rintro e w' ⟨rfl,rfl⟩)
    go_ret3
    exact⟨rfl,Below.refl _ _⟩
  ·rw[drop_end s (i+2+n) hlt]
   have hc:(((i:Int)+2+n)==(s.size:Int))=true:=by simp;omega
   have HR:Hid (resV i (.bad (2+n))= .tuple #[.string ⟨#[]⟩,.int .i64 ((i:Int)+2+n),.bool false]):=by apply Lib.hid;exact trip_eq (by omega)
   simp only;rw[HR.out];clear hd hn;go_enter Tryz.func134,Tryz.ntmps134;go_wp2_with (go_at_call 77;((with_reducible refine(K1.out _).mono ?_));rintro e w' ⟨rfl,rfl⟩)
   go_ret3
   exact⟨rfl,Below.refl _ _⟩
theorem readvar_any (s:ByteArray) (i:Nat) (hi:i<s.size) (hs:s.size≤4611686018427387904) (w:World):
  Calls Tryz.prog 134 #[.string s,.int .i64 i] w fun e w'=>e= .returned (resV i (stepVar (s.data.toList.drop (i+1))))∧Below w.heap.size w w':=by
 by_cases h1:i+1<s.size
 ·by_cases h:s[i+1]=123
  ·exact readvar_rest s i _ h1 hs h rfl w
  ·refine(readvar_open s i h1 hs h w).mono fun e w' ⟨he,hw⟩=>⟨?_,by rw[hw];exact Below.refl _ _⟩
   rw[he,drop_at s (i+1) h1,stepVar_eq,if_neg h];rfl
 ·refine(readvar_short s i (by omega) hs w).mono fun e w' ⟨he,hw⟩=>⟨?_,by rw[hw];exact Below.refl _ _⟩
  rw[he,drop_end s (i+1) h1];rfl
def cellsP (ps:List Pt):List Value:=ps.flatMap fun p=>[.string ⟨p.1.toArray⟩,.string ⟨p.2.toArray⟩]
theorem cellsP_append (a b:List Pt):cellsP (a++b)=cellsP a++cellsP b:=by simp[cellsP]
abbrev byteCells (t:Bs):List Value:=Lib.byteCells t
theorem info33:(Tryz.prog.info? 88).map (fun i=>(i.zero,i.size,i.bytes))=some (some (.agg #[.string ⟨#[]⟩,.string ⟨#[]⟩]),2,32):=by kernel_rfl
theorem info5:(Tryz.prog.info? 5).map (fun i=>(i.zero,i.size,i.bytes))=some (some (.int .u8 0),1,1):=by kernel_rfl
structure Two2 (B:Nat) (w0 w:World) (vp vt:Value) (ps:List Pt) (t:Bs):Prop where
 parts:w.ownsRow B 88 2 vp ps.length (cellsP ps)
 text:w.ownsRow B 5 1 vt t.length (byteCells t)
 below:Below B w0 w
 size:B≤w.heap.size
theorem own_ne {w:World} {B e e' s s' n n':Nat} {v v':Value} {xs xs':List Value} (h:w.ownsRow B e s v n xs) (h':w.ownsRow B e' s' v' n' xs') (hne:e≠e'):v.ownBlock=none∨v.ownBlock≠v'.ownBlock:=by
 rcases h.2 with ⟨rfl,_⟩ | ⟨g,cap,cur,rfl,_,hh,_⟩
 ·exact .inl rfl
 ·right
  rcases h'.2 with ⟨rfl,_⟩ | ⟨g',cap',cur',rfl,_,hh',_⟩
  ·simp[Value.ownBlock]
  ·simp only[Value.ownBlock,ne_eq,Option.some.injEq]
   rintro rfl;rw[hh] at hh';injection hh' with hh'
   injection hh' with _ ht
   exact hne ht
theorem text_form {w:World} {B:Nat} {v:Value} {t:Bs} (h:w.ownsRow B 5 1 v t.length (byteCells t)):(v= .slice none 0 0∧t=[])∨∃ g cap,v= .slice (some ⟨g,0,none⟩) t.length cap∧t.length≤cap:=by
 rcases h.2 with ⟨rfl,h0⟩ | ⟨g,cap,cur,rfl,_,_,hc,_⟩
 ·exact .inl ⟨rfl,List.eq_nil_of_length_eq_zero h0⟩
 ·exact .inr ⟨g,cap,rfl,hc⟩
theorem text_conv {w:World} {B g cap:Nat} {t:Bs} (h:w.ownsRow B 5 1 (.slice (some ⟨g,0,none⟩) t.length cap) t.length (byteCells t)):
  (convert 81 9 (.slice (some ⟨g,0,none⟩) t.length cap)).run Tryz.prog w= .ok (.string ⟨t.toArray⟩) w:=by
 refine run_convert_bytes_back (P:=Tryz.prog) w 81 9 5 ⟨g,0,none⟩ cap t Tryz.underlying81 Tryz.underlying5 Tryz.underlying9 ?_;intro j hj;exact h.cells (g:=g) rfl j _ (by simp[byteCells,Lib.byteCells,hj])
def Added (B:Nat) (w0:World) (vt:Value) (ps:List Pt) (t:Bs) (e:Ending) (w':World):Prop:=∃ v',e= .returned v'∧Two2 B w0 w' v' vt ps t
theorem Two2.alloc {B:Nat} {w0 w:World} {vp vt:Value} {ps:List Pt} {t:Bs} (h:Two2 B w0 w vp vt ps t) (o:Obj):Two2 B w0 (w.alloc o) vp vt ps t:=
 ⟨h.parts.alloc o,h.text.alloc o,h.below.alloc h.size o,by simp;have:=h.size;omega⟩
theorem Two2.part {B:Nat} {w0 w w':World} {vp vt v':Value} {ps:List Pt} {t:Bs} {p:Pt} (h:Two2 B w0 w vp vt ps t)
  (ho:w'.ownsRow B 88 2 v' (ps.length+1) (cellsP ps++[.string ⟨p.1.toArray⟩,.string ⟨p.2.toArray⟩])) (hg:w.grownBy w' vp.ownBlock):Two2 B w0 w' v' vt (ps++[p]) t:=
 ⟨by rw[cellsP_append];simpa[cellsP] using ho,h.text.kept hg (own_ne h.text h.parts (by decide)),h.below.grown hg h.size (fun k hk=>(h.parts.lt k hk).1),Nat.le_trans h.size hg.size⟩
theorem new_cells (w:World) (T:TypeId) (cs:Array Value) (j:Nat) (u:Value) (h:cs.toList[j]?=some u):(w.alloc (.cells cs T)).cell? ((⟨w.heap.size,0,none⟩:Addr).add j)=some u:=by
 have hadd:(⟨w.heap.size,0,none⟩:Addr).add j=⟨w.heap.size,j,none⟩:=by unfold Addr.add;split <;> simp_all
 rw[hadd,cell_of_row _ _ j cs T (0,0) (heap_alloc_new w _)];simpa using h
theorem two_one (a b:ByteArray):∀ u∈[Value.string a,Value.string b],u.oneCell'=true:=by
 intro u hu;simp only[List.mem_cons,List.not_mem_nil,or_false] at hu
 rcases hu with rfl | rfl <;> rfl
theorem addtext_no (B:Nat) (w0 w:World) (vp vt:Value) (ps:List Pt) (h:Two2 B w0 w vp vt ps []):Calls Tryz.prog 135 #[vp,vt] w (Added B w0 vt (flush ps []) []):=by
 have H:=Lib.hid h;have hz:flush ps []=ps:=rfl;rw[hz]
 rcases text_form h.text with ⟨rfl,_⟩ | ⟨g,cap,rfl,_⟩
 ·clear h hz
  go_enter Tryz.func135,Tryz.ntmps135;go_wp2;go_ret;exact⟨_,rfl,H.out⟩
 ·clear h hz
  go_enter Tryz.func135,Tryz.ntmps135;go_wp2;go_ret;exact⟨_,rfl,H.out⟩
theorem addtext_yes (B:Nat) (w0 w:World) (vp vt:Value) (ps:List Pt) (t:Bs) (hp:ps.length≤1000000) (h0:t≠[]) (h:Two2 B w0 w vp vt ps t):Calls Tryz.prog 135 #[vp,vt] w (Added B w0 vt (flush ps t) t):=by
 have H:=Lib.hid h;have hz:flush ps t=ps++[([],t)]:=by unfold flush;rw[if_neg h0]
 rw[hz];have hl:0<t.length:=List.length_pos_iff.2 h0;obtain⟨i0,hi,hz0,hz1,hz2⟩:=info_parts info33
 rcases text_form h.text with ⟨rfl,e⟩ | ⟨g,cap,rfl,_⟩
 ·exact absurd e h0
 ·have hc:=text_conv h.text
  have hb1:((t.length:Int)==0)=false:=by simp;omega
  have hb2:(t.length==0)=false:=by simp;omega
  obtain⟨m,hm⟩:∃ m,m=t.length:=⟨_,rfl⟩;rw[←hm] at hc hb1 hb2 H ⊢;have HM:=Lib.hid hm;clear h hz h0 hm hl;go_enter Tryz.func135,Tryz.ntmps135;go_wp2_with (at_builtin;refine wpList_append_own _ rfl (.tmp 9) (.tmp 13) 46 rfl B 88 i0 (.agg #[.string ⟨#[]⟩,.string ⟨#[]⟩]) 2 32 Tryz.underlying46 hi hz0 hz1 hz2 rfl (by decide) _ _ _ rfl (H.out.parts.alloc _) ⟨w.heap.size,0,none⟩ 1 1 [.string ⟨#[]⟩,.string ⟨t.toArray⟩] rfl rfl (fun j u hu=>new_cells w 88 #[.string ⟨#[]⟩,.string ⟨t.toArray⟩] j u hu) (two_one _ _) (by unfold maxLen;omega) (by omega) (H.out.alloc _).size ?_;intro v' w1 hown' hgrow _);go_ret;exact⟨_,rfl,(H.out.alloc _).part (p:=([],t)) hown' hgrow⟩
theorem addtext_any (B:Nat) (w0 w:World) (vp vt:Value) (ps:List Pt) (t:Bs) (hp:ps.length≤1000000) (h:Two2 B w0 w vp vt ps t):Calls Tryz.prog 135 #[vp,vt] w (Added B w0 vt (flush ps t) t):=by
 by_cases h0:t=[]
 ·subst h0;exact addtext_no B w0 w vp vt ps h
 ·exact addtext_yes B w0 w vp vt ps t hp h0 h
theorem text_cut {w:World} {B g n cap:Nat} {xs:List Value} (h:w.ownsRow B 5 1 (.slice (some ⟨g,0,none⟩) n cap) n xs):w.ownsRow B 5 1 (.slice (some ⟨g,0,none⟩) 0 cap) 0 []:=by
 refine⟨rfl,?_⟩
 rcases h.2 with ⟨h',_⟩ | ⟨g',cap',cur,h',hb,hg,hc,hm,hs,_⟩
 ·simp at h'
 ·simp only[Value.slice.injEq,Option.some.injEq,Addr.mk.injEq,and_true,true_and] at h'
  obtain⟨rfl,rfl⟩:=h';exact .inr ⟨g,cap,cur,rfl,hb,hg,Nat.zero_le _,hm,hs,by simp⟩
theorem Two2.cut {B:Nat} {w0 w:World} {vp:Value} {ps:List Pt} {t:Bs} {g cap n:Nat} (h:Two2 B w0 w vp (.slice (some ⟨g,0,none⟩) n cap) ps t) (hn:n=t.length):Two2 B w0 w vp (.slice (some ⟨g,0,none⟩) 0 cap) ps []:=
 ⟨h.parts,text_cut (n:=n) (xs:=byteCells t) (by rw[hn];rw[hn] at h;exact h.text),h.below,h.size⟩
theorem Two2.nilt {B:Nat} {w0 w:World} {vp:Value} {ps:List Pt} {t:Bs} (h:Two2 B w0 w vp (.slice none 0 0) ps t):Two2 B w0 w vp (.slice none 0 0) ps []:=
 ⟨h.parts,World.ownsRow_nil _ _ _ _,h.below,h.size⟩
theorem Two2.byte {B:Nat} {w0 w w':World} {vp vt v':Value} {ps:List Pt} {t:Bs} {b:UInt8} (h:Two2 B w0 w vp vt ps t)
  (ho:w'.ownsRow B 5 1 v' (t.length+1) (byteCells t++[.int .u8 b.toNat])) (hg:w.grownBy w' vt.ownBlock):Two2 B w0 w' vp v' ps (t++[b]):=
 ⟨h.parts.kept hg (own_ne h.parts h.text (by decide)),by rw[List.length_append];simpa[byteCells,Lib.byteCells] using ho,h.below.grown hg h.size (fun k hk=>(h.text.lt k hk).1),Nat.le_trans h.size hg.size⟩
theorem below_kept {w w':World} {B e s n:Nat} {v:Value} {xs:List Value} (h:w.ownsRow B e s v n xs) (hb:Below w.heap.size w w'):w'.ownsRow B e s v n xs:=
 h.kept (row:=none) ⟨hb.os,hb.tape,hb.output,hb.size,fun k hk _=>hb.block k hk⟩ (by cases v.ownBlock <;> simp)
theorem Two2.beyond {B:Nat} {w0 w w':World} {vp vt:Value} {ps:List Pt} {t:Bs} (h:Two2 B w0 w vp vt ps t) (hb:Below w.heap.size w w'):Two2 B w0 w' vp vt ps t:=
 ⟨below_kept h.parts hb,below_kept h.text hb,h.below.trans (hb.mono h.size),Nat.le_trans h.size hb.size⟩
def errOf (o:Option (List Pt)):Int:=match o with | none=>1 | some _=>0
def outOf (o:Option (List Pt)):List Pt:=match o with | none=>[] | some l=>l
def PostP (B:Nat) (w:World) (R:Option (List Pt) × Nat) (e:Ending) (w':World):Prop:=
 ∃ v,e= .returned (.tuple #[v,.int .i64 R.2,.int .i64 (errOf R.1)])∧w'.ownsRow B 88 2 v (outOf R.1).length (cellsP (outOf R.1))∧Below B w w'
theorem one_one (b:Int):∀ u∈[Value.int .u8 b],u.oneCell'=true:=by
 intro u hu;simp only[List.mem_cons,List.not_mem_nil,or_false] at hu
 rcases hu with rfl;rfl
def LoopP (s:ByteArray) (w0:World) (R:Option (List Pt) × Nat) (vp vt a:Value) (w:World):Prop:=
 ∃ (k:Nat) (ps:List Pt) (t:Bs),k≤s.size∧a= .int .i64 k∧goN (s.data.toList.drop k) k ps t=R∧Two2 w0.heap.size w0 w vp vt ps t∧ps.length≤k * 2∧t.length≤k
theorem flush_len (ps:List Pt) (t:Bs):(flush ps t).length≤ps.length+1:=by unfold flush;split <;> simp
theorem postP_bad {w w':World} {vp vt:Value} {ps:List Pt} {t:Bs} {R:Option (List Pt) × Nat} {n:Nat} {q:Int} (h:Two2 w.heap.size w w' vp vt ps t) (hR:R=(none,n)) (hq:q=n):
  PostP w.heap.size w R (.returned (.tuple #[.slice none 0 0,.int .i64 q,.int .i64 1])) w':=by
 subst hR hq;exact⟨_,rfl,World.ownsRow_nil _ _ _ _,h.below⟩
theorem parse_first (s:ByteArray) (h:parse s.data.toList=(none,0)) (h0:¬ 0<s.size) (w:World):Calls Tryz.prog 115 #[.string s] w (PostP w.heap.size w (parse s.data.toList)):=by
 rw[h];have e:=isEmpty_t s h0;have he:s.toList.isEmpty=true:=by rw[toList_data,e];rfl
 have he2:s.toList=[]:=by rw[toList_data,e]
 clear e h;go_enter Tryz.func115,Tryz.ntmps115;go_wp2
 go_ret3
 exact⟨_,rfl,World.ownsRow_nil _ _ _ _,Below.refl _ _⟩
theorem parse_second (s:ByteArray) (h0:0<s.size) (hc:s[0]≠34) (w:World):Calls Tryz.prog 115 #[.string s] w (PostP w.heap.size w (parse s.data.toList)):=by
 have hd:=drop_at s 0 h0;rw[drop0] at hd;rw[hd,parse_no _ _ hc];have he:=isEmpty_f s h0
 have hx:((s[0].toNat:Int) != 34)=true:=by
  have:=byte_ne (n:=34) hc (by omega);simp only[bne];simpa using this
 clear hd hc;go_enter Tryz.func115,Tryz.ntmps115;go_wp2
 go_ret3
 exact⟨_,rfl,World.ownsRow_nil _ _ _ _,Below.refl _ _⟩
end Go.Proofs.YtdobinjbejagcaaGreatDoor
