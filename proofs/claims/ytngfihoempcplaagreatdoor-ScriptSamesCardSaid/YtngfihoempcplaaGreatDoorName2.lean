import Derived.Test.YtngfihoempcplaaGreatDoorHex
namespace Go.Proofs.YtngfihoempcplaaGreatDoor
open Go Go.RowKit
theorem readbyte_any (s:ByteArray) (i:Nat) (hi:i<s.size) (hs:s.size≤4611686018427387904) (h34:s[i]≠34) (h36:s[i]≠36) (w:World):
  Calls Tryz.prog 125 #[.string s,.int .i64 i] w fun e w'=>e= .returned (resS i (step (s.data.toList.drop i)))∧w=w':=by
 have hd:=drop_at s i hi;by_cases hx:s[i]=92
 ·have hx1:((s[i].toNat:Int)==92)=true:=byte_eq (n:=92) hx (by omega)
  have e:step (s.data.toList.drop i)=stepEsc (s.data.toList.drop (i+1)):=by rw[hd,hx,step_esc]
  rw[e];have K:=Lib.hid fun w=>readesc_any s i (i+1) rfl (by omega) hs w
  obtain⟨v,hv⟩:∃ v,v=resS i (stepEsc (s.data.toList.drop (i+1))):=⟨_,rfl⟩;rw[←hv] at K ⊢
  have HV:Hid (∃ a b:Int,∃ x:Bool,v= .tuple #[.int .u8 a,.int .i64 b,.bool x]):=by
   apply Lib.hid;rw[hv]
   cases hr:stepEsc (s.data.toList.drop (i+1)) with
   | bad k=>exact⟨_,_,_,rfl⟩
   | byte c k=>exact⟨_,_,_,rfl⟩
   | stop=>
     exfalso
     have h2:=stop_form (e.trans hr);obtain⟨t,ht⟩:=h2;rw[hd,hx] at ht;injection ht with ht _
     exact absurd ht (by decide)
   | var nm k=>
     exfalso
     obtain⟨t,ht,_⟩:=svar_form (e.trans hr);rw[hd,hx] at ht;injection ht with ht _
     exact absurd ht (by decide)
  clear hv e hd hx h34 h36;obtain⟨a,b,x,rfl⟩:=HV.out;have K':Hid (∀ w,Calls Tryz.prog 146 #[.string s,.int .i64 ((i:Int)+1)] w fun e w'=>e= .returned (.tuple #[.int .u8 a,.int .i64 b,.bool x])∧w=w'):=K;clear K;go_enter Tryz.func125,Tryz.ntmps125;go_wp2_with (go_at_call 146;((with_reducible refine(K'.out _).mono ?_));rintro e w' ⟨rfl,rfl⟩)
  go_ret3
  exact⟨rfl,rfl⟩
 ·have hx1:((s[i].toNat:Int)==92)=false:=byte_ne (n:=92) hx (by omega)
  by_cases hp:plainB s[i]=true
  ·have e:step (s.data.toList.drop i)= .byte s[i] 1:=by rw[hd,step_plain _ _ hp]
   have K:=Lib.hid fun w=>plain_any s[i] w
   rw[hp] at K;have HR:Hid (resS i (step (s.data.toList.drop i))= .tuple #[.int .u8 s[i].toNat,.int .i64 ((i:Int)+1),.bool true]):=by apply Lib.hid;rw[e];rfl
   rw[HR.out];clear e hd hx h34 h36 hp;go_enter Tryz.func125,Tryz.ntmps125;go_wp2_with (go_at_call 140;((with_reducible refine(K.out _).mono ?_));rintro e w' ⟨rfl,rfl⟩)
   go_ret3
   exact⟨rfl,rfl⟩
  ·have e:step (s.data.toList.drop i)= .bad 0:=by rw[hd];unfold step;simp[h34,h36,hx,hp]
   have K:=Lib.hid fun w=>plain_any s[i] w
   rw[Bool.eq_false_iff.2 hp] at K;have HR:Hid (resS i (step (s.data.toList.drop i))= .tuple #[.int .u8 0,.int .i64 (i:Int),.bool false]):=by apply Lib.hid;rw[e];rfl
   rw[HR.out];clear e hd hx h34 h36 hp;go_enter Tryz.func125,Tryz.ntmps125;go_wp2_with (go_at_call 140;((with_reducible refine(K.out _).mono ?_));rintro e w' ⟨rfl,rfl⟩)
   go_ret3
   exact⟨rfl,rfl⟩
theorem toList_data (s:ByteArray):s.toList=s.data.toList:=Lib.toList_data s
theorem len_data (s:ByteArray):s.data.toList.length=s.size:=Array.length_toList
theorem drop0 (s:ByteArray):s.data.toList.drop 0=s.data.toList:=rfl
theorem isEmpty_f (s:ByteArray) (h:0<s.size):s.toList.isEmpty=false:=by
 rw[toList_data];simp only[List.isEmpty_eq_false_iff,ne_eq];intro e;have:=congrArg List.length e;rw[len_data,List.length_nil] at this;omega
theorem isEmpty_t (s:ByteArray) (h:¬ 0<s.size):s.data.toList=[]:=by
 apply List.eq_nil_of_length_eq_zero;rw[len_data];omega
theorem namebytes_any (s:ByteArray) (hs:s.size≤4611686018427387904) (w:World):
  Calls Tryz.prog 130 #[.string s] w fun e w'=>e= .returned (.int .i64 (nameLen s.data.toList))∧w=w':=by
 by_cases h0:0<s.size
 ·have he:=isEmpty_f s h0
  have hd:=drop_at s 0 h0;rw[drop0] at hd;obtain⟨N,hN⟩:∃ N,N=nameLen s.data.toList:=⟨_,rfl⟩;rw[←hN];rw[hd,nameLen_cons] at hN;have KD:=Lib.hid fun w=>isdig_any s[0] w
  have KL:=Lib.hid fun w=>islow_any s[0] w
  by_cases h1:isDig s[0]=true
  ·rw[if_pos h1] at hN
   rw[h1] at KD;subst hN;clear hd h1 KL;go_enter Tryz.func130,Tryz.ntmps130;go_wp2_with (go_at_call 150;((with_reducible refine(KD.out _).mono ?_));rintro e w' ⟨rfl,rfl⟩);go_ret;exact⟨rfl,rfl⟩
  ·rw[if_neg h1] at hN
   rw[Bool.eq_false_iff.2 h1] at KD;by_cases h2:isLow s[0]=true
   ·rw[if_pos h2] at hN
    rw[h2] at KL;have HN:=Lib.hid hN;clear hd h1 h2 hN;go_enter Tryz.func130,Tryz.ntmps130;go_wp2_with (first | (go_at_call 150;((with_reducible refine(KD.out _).mono ?_));rintro e w' ⟨rfl,rfl⟩) | (go_at_call 151;((with_reducible refine(KL.out _).mono ?_));rintro e w' ⟨rfl,rfl⟩))
    go_loop [3] (fun n=>∃ k:Nat,1≤k∧k≤8∧k≤s.size∧n= .int .i64 k∧N=tk (8 - k) (s.data.toList.drop k)+k) (fun n=>8 - (intOf n).toNat)
    case atStart=>exact⟨1,by omega,by omega,by omega,rfl,HN.out⟩
    case round=>
     obtain⟨k,k1,k8,hk,rfl,hn⟩:=hrel;have HK:=Lib.hid hn;clear hn;by_cases a:k<s.size
     ·by_cases b:k<8
      ·have KI:=Lib.hid fun w=>isin_any s[k] w
       have hd:=drop_at s k a;by_cases c:isIn s[k]=true
       ·rw[c] at KI
        have HX:Hid (N=tk (8 - (k+1)) (s.data.toList.drop (k+1))+(k+1)):=by
         apply Lib.hid;rw[HK.out,hd,show 8 - k=(8 - (k+1))+1 by omega,tk_cons,if_pos c];omega
        clear hd c;go_wp2_with (go_at_call 152;((with_reducible refine(KI.out _).mono ?_));rintro e w' ⟨rfl,rfl⟩)
        go_round
        case rel=>exact⟨k+1,by omega,by omega,by omega,by go_num,HX.out⟩
        case measure=>simp[intOf];omega
       ·rw[Bool.eq_false_iff.2 c] at KI
        have HX:Hid ((k:Int)=N):=by
         apply Lib.hid;rw[HK.out,hd,show 8 - k=(8 - (k+1))+1 by omega,tk_cons,if_neg c];omega
        clear hd c;go_wp2_with (go_at_call 152;((with_reducible refine(KI.out _).mono ?_));rintro e w' ⟨rfl,rfl⟩);go_ret;exact⟨ret_int HX.out,rfl⟩
      ·have HX:Hid ((k:Int)=N):=by
        apply Lib.hid;rw[HK.out,show 8 - k=0 by omega];simp[tk]
       go_wp2;go_ret;exact⟨ret_int HX.out,rfl⟩
     ·have HX:Hid ((k:Int)=N):=by
       apply Lib.hid;rw[HK.out,drop_end s k a];cases 8 - k <;> simp[tk]
      go_wp2;go_ret;exact⟨ret_int HX.out,rfl⟩
   ·rw[if_neg h2] at hN
    rw[Bool.eq_false_iff.2 h2] at KL;subst hN;clear hd h1 h2;go_enter Tryz.func130,Tryz.ntmps130;go_wp2_with (first | (go_at_call 150;((with_reducible refine(KD.out _).mono ?_));rintro e w' ⟨rfl,rfl⟩) | (go_at_call 151;((with_reducible refine(KL.out _).mono ?_));rintro e w' ⟨rfl,rfl⟩));go_ret;exact⟨rfl,rfl⟩
 ·have e:=isEmpty_t s h0
  have he:s.toList.isEmpty=true:=by rw[toList_data,e];rfl
  have he2:s.toList=[]:=by rw[toList_data,e]
  rw[e];clear e;go_enter Tryz.func130,Tryz.ntmps130;go_wp2;go_ret;exact⟨rfl,rfl⟩
theorem name_any (s:ByteArray) (hs:s.size≤4611686018427387904) (w:World):
  Calls Tryz.prog 99 #[.string s] w fun e w'=>e= .returned (.bool (isName s.data.toList))∧w=w':=by
 by_cases h0:0<s.size
 ·have he:=isEmpty_f s h0
  have he2:¬ s.toList=[]:=by intro e;rw[e] at he;simp at he
  have hl:=len_data s
  have e:isName s.data.toList=decide (nameLen s.data.toList=s.size):=by
   unfold isName;rw[hl,←toList_data,he];rfl
  rw[e];have hb:=(nameLen_le s.data.toList).1;rw[hl] at hb;have K:=Lib.hid fun w=>namebytes_any s hs w
  obtain⟨n,hn⟩:∃ n,n=nameLen s.data.toList:=⟨_,rfl⟩;rw[←hn] at K hb ⊢;clear hn e hl;by_cases h:n=s.size
  ·subst h
   obtain⟨v,hv⟩:∃ v,v=decide (s.size=s.size):=⟨_,rfl⟩;rw[←hv];have HV:Hid (v=true):=by apply Lib.hid;rw[hv];simp
   clear hv;go_enter Tryz.func99,Tryz.ntmps99;go_wp2_with (go_at_call 130;((with_reducible refine(K.out _).mono ?_));rintro e w' ⟨rfl,rfl⟩);go_ret;exact⟨ret_bool (by rw[HV.out]),rfl⟩
  ·have h1:((n:Int)==(s.size:Int))=false:=by simp;omega
   have h2:decide (n=s.size)=false:=by simpa using h
   have h3:(n==s.size)=false:=by simpa using h
   rw[h2];clear h2;go_enter Tryz.func99,Tryz.ntmps99;go_wp2_with (go_at_call 130;((with_reducible refine(K.out _).mono ?_));rintro e w' ⟨rfl,rfl⟩);go_ret;exact⟨ret_bool (by simp),rfl⟩
 ·have e:=isEmpty_t s h0
  have he:s.toList.isEmpty=true:=by rw[toList_data,e];rfl
  have he2:s.toList=[]:=by rw[toList_data,e]
  rw[e];clear e;go_enter Tryz.func99,Tryz.ntmps99;go_wp2;go_ret;exact⟨rfl,rfl⟩
end Go.Proofs.YtngfihoempcplaaGreatDoor
