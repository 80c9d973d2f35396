import Derived.Test.YtngfihoempcplaaGreatDoorCf
import Derived.Test.YtngfihoempcplaaGreatDoorHex
namespace Go.Proofs.YtngfihoempcplaaGreatDoor
open Go Go.RowKit
set_option maxHeartbeats 400000
theorem y14 (s:BA) (i:Nat) (hi:i<s.size) (hs:s.size≤4611686018427387904) (h34:s[i]≠34) (h36:s[i]≠36) (w:World):
  Cz 125 #[s,i] w fun e w'=>e= .returned (resS i (step (s.data.toList.drop i)))∧w=w':=by
 have hd:=z0h s i hi;by_cases hx:s[i]=92
 ·have hx1:((s[i].toNat:Int)==92)=true:=z08 (n:=92) hx (by omega)
  have e:step (s.data.toList.drop i)=stepEsc (s.data.toList.drop (i+1)):=by rw[hd,hx,z6i]
  rw[e];have K:=zz fun w=>y24 s i (i+1) rfl (by omega) hs w
  obtain⟨v,hv⟩:∃ v,v=resS i (stepEsc (s.data.toList.drop (i+1))):=⟨_,rfl⟩;rw[←hv] at K ⊢
  have HV:Hid (∃ a b:Int,∃ x:Bool,v= .tuple #[.int .u8 a,b,.bool x]):=by
   apply Lib.hid;rw[hv]
   cases hr:stepEsc (s.data.toList.drop (i+1)) with
   | bad k=>exact⟨_,_,_,rfl⟩
   | byte c k=>exact⟨_,_,_,rfl⟩
   | stop=>
     exfalso
     have h2:=z28 (e.trans hr);obtain⟨t,ht⟩:=h2;rw[hd,hx] at ht;injection ht with ht _
     exact absurd ht (by decide)
   | var nm k=>
     exfalso
     obtain⟨t,ht,_⟩:=z3t (e.trans hr);rw[hd,hx] at ht;injection ht with ht _
     exact absurd ht (by decide)
  clear hv e hd hx h34 h36;obtain⟨a,b,x,rfl⟩:=HV.out;have K':Hid (∀ w,Cz 146 #[s,iI ((i:Int)+1)] w fun e w'=>e= .returned (.tuple #[.int .u8 a,b,.bool x])∧w=w'):=K;clear K;go_enter Tryz.func125,Tryz.ntmps125;go_wp2_with (go_at_call 146;((with_reducible refine(K'.out _).mono ?_));rintro e w' ⟨rfl,rfl⟩)
  go_ret3
  exact⟨rfl,rfl⟩
 ·have hx1:((s[i].toNat:Int)==92)=false:=z0s (n:=92) hx (by omega)
  by_cases hp:plainB s[i]=true
  ·have e:step (s.data.toList.drop i)= .byte s[i] 1:=by rw[hd,z5v _ _ hp]
   have K:=zz fun w=>z3w s[i] w
   rw[hp] at K;have HR:Hid (resS i (step (s.data.toList.drop i))= .tuple #[.int .u8 s[i].toNat,iI ((i:Int)+1),.bool true]):=by apply Lib.hid;rw[e];rfl
   rw[HR.out];clear e hd hx h34 h36 hp;go_enter Tryz.func125,Tryz.ntmps125;go_wp2_with (go_at_call 140;((with_reducible refine(K.out _).mono ?_));rintro e w' ⟨rfl,rfl⟩)
   go_ret3
   exact⟨rfl,rfl⟩
  ·have e:step (s.data.toList.drop i)= .bad 0:=by rw[hd];unfold step;simp[h34,h36,hx,hp]
   have K:=zz fun w=>z3w s[i] w
   rw[Bool.eq_false_iff.2 hp] at K;have HR:Hid (resS i (step (s.data.toList.drop i))= .tuple #[.int .u8 0,iI (i:Int),.bool false]):=by apply Lib.hid;rw[e];rfl
   rw[HR.out];clear e hd hx h34 h36 hp;go_enter Tryz.func125,Tryz.ntmps125;go_wp2_with (go_at_call 140;((with_reducible refine(K.out _).mono ?_));rintro e w' ⟨rfl,rfl⟩)
   go_ret3
   exact⟨rfl,rfl⟩
theorem toList_data (s:BA):s.toList=s.data.toList:=Lib.toList_data s
theorem z0d (s:BA):s.data.toList.length=s.size:=Array.length_toList
theorem drop0 (s:BA):s.data.toList.drop 0=s.data.toList:=rfl
theorem z31 (s:BA) (h:0<s.size):s.toList.isEmpty=false:=by
 rw[toList_data];simp only[List.isEmpty_eq_false_iff,ne_eq];intro e;have:=congrArg List.length e;rw[z0d,List.length_nil] at this;omega
theorem z2y (s:BA) (h:¬ 0<s.size):s.data.toList=[]:=by
 apply List.eq_nil_of_length_eq_zero;rw[z0d];omega
theorem z5a (s:BA) (hs:s.size≤4611686018427387904) (w:World):
  Cz 130 #[s] w fun e w'=>e= .returned (.int .i64 (nameLen s.data.toList))∧w=w':=by
 by_cases h0:0<s.size
 ·have he:=z31 s h0
  have hd:=z0h s 0 h0;rw[drop0] at hd;obtain⟨N,hN⟩:∃ N,N=nameLen s.data.toList:=⟨_,rfl⟩;rw[←hN];rw[hd,z05] at hN;have KD:=zz fun w=>y2f s[0] w
  have KL:=zz fun w=>y05 s[0] w
  by_cases h1:isDig s[0]=true
  ·rw[if_pos h1] at hN
   rw[h1] at KD;subst hN;clear hd h1 KL;go_enter Tryz.func130,Tryz.ntmps130;go_wp2_with (go_at_call 150;((with_reducible refine(KD.out _).mono ?_));rintro e w' ⟨rfl,rfl⟩);go_ret;exact⟨rfl,rfl⟩
  ·rw[if_neg h1] at hN
   rw[Bool.eq_false_iff.2 h1] at KD;by_cases h2:isLow s[0]=true
   ·rw[if_pos h2] at hN
    rw[h2] at KL;have HN:=zz hN;clear hd h1 h2 hN;go_enter Tryz.func130,Tryz.ntmps130;go_wp2_with (first | (go_at_call 150;((with_reducible refine(KD.out _).mono ?_));rintro e w' ⟨rfl,rfl⟩) | (go_at_call 151;((with_reducible refine(KL.out _).mono ?_));rintro e w' ⟨rfl,rfl⟩))
    go_loop [3] (fun n=>∃ k:Nat,1≤k∧k≤8∧k≤s.size∧n= .int .i64 k∧N=tk (8 - k) (s.data.toList.drop k)+k) (fun n=>8 - (intOf n).toNat)
    case atStart=>exact⟨1,by omega,by omega,by omega,rfl,HN.out⟩
    case round=>
     obtain⟨k,k1,k8,hk,rfl,hn⟩:=hrel;have HK:=zz hn;clear hn;by_cases a:k<s.size
     ·by_cases b:k<8
      ·have KI:=zz fun w=>x1d s[k] w
       have hd:=z0h s k a;by_cases c:isIn s[k]=true
       ·rw[c] at KI
        have HX:Hid (N=tk (8 - (k+1)) (s.data.toList.drop (k+1))+(k+1)):=by
         apply Lib.hid;rw[HK.out,hd,show 8 - k=(8 - (k+1))+1 by omega,z2a,if_pos c];omega
        clear hd c;go_wp2_with (go_at_call 152;((with_reducible refine(KI.out _).mono ?_));rintro e w' ⟨rfl,rfl⟩)
        go_round
        case rel=>exact⟨k+1,by omega,by omega,by omega,by go_num,HX.out⟩
        case measure=>simp[intOf];omega
       ·rw[Bool.eq_false_iff.2 c] at KI
        have HX:Hid ((k:Int)=N):=by
         apply Lib.hid;rw[HK.out,hd,show 8 - k=(8 - (k+1))+1 by omega,z2a,if_neg c];omega
        clear hd c;go_wp2_with (go_at_call 152;((with_reducible refine(KI.out _).mono ?_));rintro e w' ⟨rfl,rfl⟩);go_ret;exact⟨z0m HX.out,rfl⟩
      ·have HX:Hid ((k:Int)=N):=by
        apply Lib.hid;rw[HK.out,show 8 - k=0 by omega];simp[tk]
       go_wp2;go_ret;exact⟨z0m HX.out,rfl⟩
     ·have HX:Hid ((k:Int)=N):=by
       apply Lib.hid;rw[HK.out,z07 s k a];cases 8 - k <;> simp[tk]
      go_wp2;go_ret;exact⟨z0m HX.out,rfl⟩
   ·rw[if_neg h2] at hN
    rw[Bool.eq_false_iff.2 h2] at KL;subst hN;clear hd h1 h2;go_enter Tryz.func130,Tryz.ntmps130;go_wp2_with (first | (go_at_call 150;((with_reducible refine(KD.out _).mono ?_));rintro e w' ⟨rfl,rfl⟩) | (go_at_call 151;((with_reducible refine(KL.out _).mono ?_));rintro e w' ⟨rfl,rfl⟩));go_ret;exact⟨rfl,rfl⟩
 ·have e:=z2y s h0
  have he:s.toList.isEmpty=true:=by rw[toList_data,e];rfl
  have he2:s.toList=[]:=by rw[toList_data,e]
  rw[e];clear e;go_enter Tryz.func130,Tryz.ntmps130;go_wp2;go_ret;exact⟨rfl,rfl⟩
theorem z5l (s:BA) (hs:s.size≤4611686018427387904) (w:World):
  Cz 99 #[s] w fun e w'=>e= .returned (.bool (isName s.data.toList))∧w=w':=by
 by_cases h0:0<s.size
 ·have he:=z31 s h0
  have he2:¬ s.toList=[]:=by intro e;rw[e] at he;simp at he
  have hl:=z0d s
  have e:isName s.data.toList=decide (nameLen s.data.toList=s.size):=by
   unfold isName;rw[hl,←toList_data,he];rfl
  rw[e];have hb:=(z3f s.data.toList).1;rw[hl] at hb;have K:=zz fun w=>z5a s hs w
  obtain⟨n,hn⟩:∃ n,n=nameLen s.data.toList:=⟨_,rfl⟩;rw[←hn] at K hb ⊢;clear hn e hl;by_cases h:n=s.size
  ·subst h
   obtain⟨v,hv⟩:∃ v,v=decide (s.size=s.size):=⟨_,rfl⟩;rw[←hv];have HV:Hid (v=true):=by apply Lib.hid;rw[hv];simp
   clear hv;go_enter Tryz.func99,Tryz.ntmps99;go_wp2_with (go_at_call 130;((with_reducible refine(K.out _).mono ?_));rintro e w' ⟨rfl,rfl⟩);go_ret;exact⟨z0c (by rw[HV.out]),rfl⟩
  ·have h1:((n:Int)==(s.size:Int))=false:=by simp;omega
   have h2:decide (n=s.size)=false:=by simpa using h
   have h3:(n==s.size)=false:=by simpa using h
   rw[h2];clear h2;go_enter Tryz.func99,Tryz.ntmps99;go_wp2_with (go_at_call 130;((with_reducible refine(K.out _).mono ?_));rintro e w' ⟨rfl,rfl⟩);go_ret;exact⟨z0c (by simp),rfl⟩
 ·have e:=z2y s h0
  have he:s.toList.isEmpty=true:=by rw[toList_data,e];rfl
  have he2:s.toList=[]:=by rw[toList_data,e]
  rw[e];clear e;go_enter Tryz.func99,Tryz.ntmps99;go_wp2;go_ret;exact⟨rfl,rfl⟩
def okPre:Bs→Bool
 | []=>true
 | c::r=>isLow c && r.all isIn
def oneD:Bs→Bool
 | [c]=>isDig c
 | _=>false
theorem y9y:∀ (k:Nat) (r:Bs),decide (tk k r=r.length)=(r.all isIn && decide (r.length≤k))
 | 0,[]=>by simp[tk]
 | 0,c::r=>by simp[tk]
 | k+1,[]=>by simp[tk]
 | k+1,c::r=>by
   have ih:=y9y k r;rw[z2a];by_cases hc:isIn c=true
   ·rw[if_pos hc];simp only[List.all_cons,hc,Bool.true_and,List.length_cons,Nat.add_le_add_iff_right,Nat.add_right_cancel_iff];exact ih
   ·rw[if_neg hc];simp[hc]
theorem y7n:∀ c:UInt8,isDig c=true→isLow c=false:=z5c _ (by decide+kernel)
theorem x0f (l:Bs):isName l=(oneD l || (okPre l && decide (1≤l.length) && decide (l.length≤8))):=by
 cases l with
 | nil=>rfl
 | cons c r=>
   have e:isName (c::r)=decide (nameLen (c::r)=r.length+1):=by unfold isName;simp
   rw[e,z05];by_cases h1:isDig c=true
   ·rw[if_pos h1]
    cases r with
    | nil=>simp[oneD,h1]
    | cons d r=>simp[oneD,okPre,y7n c h1]
   ·rw[if_neg h1]
    have ho:oneD (c::r)=false:=by cases r with
     | nil=>simp[oneD,h1]
     | cons d r=>rfl
    rw[ho];by_cases h2:isLow c=true
    ·have:=y9y 7 r
     rw[if_pos h2];simp only[okPre,h2,Bool.true_and,Bool.false_or,Nat.add_right_cancel_iff,List.length_cons];rw[this];simp
    ·rw[if_neg h2];simp[okPre,h2]
theorem y5s (s:BA) (k:Nat) (hk:k<s.size):okPre (s.data.toList.take (k+1))=(okPre (s.data.toList.take k) && (if k=0 then isLow s[k] else isIn s[k])):=by
 have e:s.data.toList.take (k+1)=s.data.toList.take k++[s[k]]:=by
  rw[List.take_succ_eq_append_getElem (by simpa using hk)];rfl
 rw[e]
 cases k with
 | zero=>simp[okPre]
 | succ k=>
   cases h:s.data.toList with
   | nil=>have:=z0d s;rw[h] at this;simp at this;omega
   | cons c r=>simp[okPre,List.all_append,Bool.and_assoc]
theorem z86 (l:Bs) (k:Nat) (h:okPre l=true):okPre (l.take k)=true:=by
 cases l with
 | nil=>simpa using h
 | cons c r=>
   cases k with
   | zero=>rfl
   | succ k=>
     rw[List.take_succ_cons];simp only[okPre,Bool.and_eq_true,List.all_eq_true] at h ⊢;exact⟨h.1,fun x hx=>h.2 x (List.mem_of_mem_take hx)⟩
theorem z45 (s:BA) (hs:s.size≤4611686018427387904) (w:World):
  Cz 67 #[s] w fun e w'=>e= .returned (.bool (isName s.data.toList))∧w=w':=by
 rw[x0f,z0d];have ho:oneD s.data.toList=true∨oneD s.data.toList=false:=by cases oneD s.data.toList <;> simp
 obtain⟨v,hv⟩:∃ v,v=(oneD s.data.toList || (okPre s.data.toList && decide (1≤s.size) && decide (s.size≤8))):=⟨_,rfl⟩;rw[←hv];have HV:=zz hv;clear hv;by_cases h1:s.size=1
 ·have hlt:0<s.size:=by omega
  have hd:=z0h s 0 hlt;rw[drop0,z07 s 1 (by omega)] at hd;have e1:oneD s.data.toList=isDig s[0]:=by rw[hd];rfl
  rw[e1] at ho;have b1:(s.size==1)=true:=by simp[h1]
  have b2:((s.size:Int)==1)=true:=by simp[h1]
  rcases ho with h | h
  ·have hx:48≤(s[0].toNat:Int)∧(s[0].toNat:Int)≤57:=by simpa[isDig] using h
   obtain⟨x1,x2⟩:=hx;have HR:Hid (v=true):=by apply Lib.hid;rw[HV.out,e1,h];rfl
   clear hd e1 h HV h1;go_enter Tryz.func67,Tryz.ntmps67;go_wp2;go_ret;exact⟨z0c (by rw[HR.out]),rfl⟩
  ·have hx:¬ (48≤(s[0].toNat:Int)∧(s[0].toNat:Int)≤57):=by simpa[isDig] using h
   have HR:Hid (v=isLow s[0]):=by apply Lib.hid;rw[HV.out,e1,h,hd];simp[okPre,h1]
   have KL:=zz fun w=>z44 s[0] w
   have H1:=zz h1;clear hd e1 h HV h1;have hx2:(s[0].toNat:Int)<48∨48≤(s[0].toNat:Int)∧57<(s[0].toNat:Int):=by omega
   clear hx;by_cases hl:isLow s[0]=true
   ·rw[hl] at KL
    have HR2:Hid (v=true):=by apply Lib.hid;rw[HR.out,hl]
    clear HR hl
    rcases hx2 with hx2 | ⟨hx2,hx3⟩
    all_goals
     go_enter Tryz.func67,Tryz.ntmps67;go_wp2
     go_loop [3] (fun n=>∃ k:Nat,(k=0∨k=1)∧n= .int .i64 k) (fun n=>1 - (intOf n).toNat)
     case atStart=>exact⟨0,.inl rfl,rfl⟩
     case round=>
      obtain⟨k,(rfl | rfl),rfl⟩:=hrel
      ·go_wp2_with (go_at_call 109;((with_reducible refine(KL.out _).mono ?_));rintro e w' ⟨rfl,rfl⟩)
       go_round
       case rel=>exact⟨1,.inr rfl,rfl⟩
       case measure=>simp[intOf]
      ·have l1:¬ 1<s.size:=by have:=H1.out;omega
       have l2:s.size≤8:=by have:=H1.out;omega
       go_wp2;go_ret;exact⟨z0c (by rw[HR2.out];simp;omega),rfl⟩
   ·rw[Bool.eq_false_iff.2 hl] at KL
    have HR2:Hid (v=false):=by apply Lib.hid;rw[HR.out,Bool.eq_false_iff.2 hl]
    clear HR hl
    rcases hx2 with hx2 | ⟨hx2,hx3⟩
    all_goals
     go_enter Tryz.func67,Tryz.ntmps67;go_wp2
     go_loop [3] (fun n=>n= .int .i64 0) (fun n=>1 - (intOf n).toNat)
     case atStart=>exact rfl
     case round=>
      obtain rfl:=hrel;go_wp2_with (go_at_call 109;((with_reducible refine(KL.out _).mono ?_));rintro e w' ⟨rfl,rfl⟩);go_ret;exact⟨z0c (by rw[HR2.out]),rfl⟩
 ·have b1:(s.size==1)=false:=by simpa using h1
  have b2:((s.size:Int)==1)=false:=by simp;omega
  have e1:oneD s.data.toList=false:=by
   cases h:s.data.toList with
   | nil=>rfl
   | cons c r=>
     cases r with
     | nil=>have:=z0d s;rw[h] at this;simp at this;omega
     | cons d r=>rfl
  have HR:Hid (v=(okPre s.data.toList && decide (1≤s.size) && decide (s.size≤8))):=by apply Lib.hid;rw[HV.out,e1];rfl
  clear e1 HV ho h1;go_enter Tryz.func67,Tryz.ntmps67;go_wp2
  go_loop [3] (fun n=>∃ k:Nat,k≤s.size∧n= .int .i64 k∧okPre (s.data.toList.take k)=true) (fun n=>s.size - (intOf n).toNat)
  case atStart=>exact⟨0,by omega,rfl,rfl⟩
  case round=>
   obtain⟨k,hk,rfl,hok⟩:=hrel;by_cases a:k<s.size
   ·have ht:=y5s s k a
    rw[hok] at ht;by_cases hz:k=0
    ·subst hz
     rw[if_pos rfl] at ht;have KL:=zz fun w=>z44 s[0] w
     by_cases hl:isLow s[0]=true
     ·rw[hl] at KL
      have HX:Hid (okPre (s.data.toList.take 1)=true):=by apply Lib.hid;rw[ht,hl];rfl
      clear ht hl hok;go_wp2_with (go_at_call 109;((with_reducible refine(KL.out _).mono ?_));rintro e w' ⟨rfl,rfl⟩)
      go_round
      case rel=>exact⟨1,by omega,rfl,HX.out⟩
      case measure=>simp[intOf];omega
     ·rw[Bool.eq_false_iff.2 hl] at KL ht
      have HX:Hid (v=false):=by
       apply Lib.hid;rw[HR.out];by_cases ho:okPre s.data.toList=true
       ·have:=z86 _ 1 ho;rw[ht] at this;simp at this
       ·simp[ho]
      clear ht hl hok;go_wp2_with (go_at_call 109;((with_reducible refine(KL.out _).mono ?_));rintro e w' ⟨rfl,rfl⟩);go_ret;exact⟨z0c (by rw[HX.out]),rfl⟩
    ·rw[if_neg hz] at ht
     have hz':0<k:=by omega
     have KL:=zz fun w=>y2h s[k] w
     by_cases hl:isIn s[k]=true
     ·rw[hl] at KL
      have HX:Hid (okPre (s.data.toList.take (k+1))=true):=by apply Lib.hid;rw[ht,hl];rfl
      clear ht hl hok hz;go_wp2_with (go_at_call 109;((with_reducible refine(KL.out _).mono ?_));rintro e w' ⟨rfl,rfl⟩)
      go_round
      case rel=>exact⟨k+1,by omega,by go_num,HX.out⟩
      case measure=>simp[intOf];omega
     ·rw[Bool.eq_false_iff.2 hl] at KL ht
      have HX:Hid (v=false):=by
       apply Lib.hid;rw[HR.out];by_cases ho:okPre s.data.toList=true
       ·have:=z86 _ (k+1) ho;rw[ht] at this;simp at this
       ·simp[ho]
      clear ht hl hok hz;go_wp2_with (go_at_call 109;((with_reducible refine(KL.out _).mono ?_));rintro e w' ⟨rfl,rfl⟩);go_ret;exact⟨z0c (by rw[HX.out]),rfl⟩
   ·have HX:Hid (v=(decide (1≤s.size) && decide (s.size≤8))):=by
     apply Lib.hid;rw[HR.out];rw[List.take_of_length_le (by rw[z0d];omega)] at hok;rw[hok];rfl
    clear hok;by_cases c1:1≤s.size
    ·by_cases c2:s.size≤8
     ·have HY:Hid (v=true):=by apply Lib.hid;rw[HX.out];simp[c1,c2]
      go_wp2;go_ret;exact⟨z0c (by rw[HY.out];simp;omega),rfl⟩
     ·have HY:Hid (v=false):=by apply Lib.hid;rw[HX.out];simp[c2]
      go_wp2;go_ret;exact⟨z0c (by rw[HY.out];simp;omega),rfl⟩
    ·have HY:Hid (v=false):=by apply Lib.hid;rw[HX.out];simp[c1]
     go_wp2;go_ret;exact⟨z0c (by rw[HY.out]),rfl⟩
end Go.Proofs.YtngfihoempcplaaGreatDoor
