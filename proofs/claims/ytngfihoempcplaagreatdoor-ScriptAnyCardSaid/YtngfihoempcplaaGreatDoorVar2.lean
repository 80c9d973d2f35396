import Derived.Test.YtngfihoempcplaaGreatDoorCf
import Derived.Test.YtngfihoempcplaaGreatDoorEsc
namespace Go.Proofs.YtngfihoempcplaaGreatDoor
open Go Go.RowKit
set_option maxHeartbeats 400000
theorem y6f (s:BA) (i p:Nat) (hp:p=i+1) (hi:p≤s.size) (hs:s.size≤4611686018427387904) (w:World):
  Cz 108 #[s,p] w fun e w'=>e= .returned (resE i (stepEsc (s.data.toList.drop p)))∧Below w.heap.size w w':=by
 by_cases hlt:p<s.size
 ·by_cases hx:s[p]=120
  ·have hd:=z0h s p hlt
   rw[hx] at hd;have e:=z5y (s.data.toList.drop (p+1));have ht:(s.data.toList.drop (p+1)).tail=s.data.toList.drop (p+2):=by simp
   rw[ht] at e;by_cases h1:lookH (s.data.toList.drop (p+1))<0
   ·rw[if_pos h1] at e
    refine(y2z s p hlt hs hx h1 w).mono fun e' w' ⟨he,hw⟩=>⟨?_,?_⟩
    ·rw[he,hd,z64,e];simp only[resE];congr;omega
    ·rw[hw];exact Below.refl _ _
   ·rw[if_neg h1] at e
    have l1:=z9x s (p+1) h1;have v1:hexD s[p+1]=lookH (s.data.toList.drop (p+1)):=(z4g s (p+1) l1).symm;by_cases h2:lookH (s.data.toList.drop (p+2))<0
    ·rw[if_pos h2] at e
     refine(y3b s p l1 hs hx (by rw[v1];exact h1) h2 w).mono fun e' w' ⟨he,hw⟩=>⟨?_,?_⟩
     ·rw[he,hd,z64,e];simp only[resE];congr;omega
     ·rw[hw];exact Below.refl _ _
    ·rw[if_neg h2] at e
     have l2:=z9x s (p+2) h2;have v2:hexD s[p+2]=lookH (s.data.toList.drop (p+2)):=(z4g s (p+2) l2).symm;refine(y28 s p l2 hs hx (by rw[v1];exact h1) (by rw[v2];exact h2) w).mono fun e' w' ⟨he,n,hw⟩=>⟨?_,?_⟩
     ·have b1:=z6f (s.data.toList.drop (p+1))
      have b2:=z6f (s.data.toList.drop (p+2));rw[he,hd,z64,e,v1,v2];generalize lookH (s.data.toList.drop (p+1))=a at *;generalize lookH (s.data.toList.drop (p+2))=b at *
      have e:((UInt8.ofNat (a * 16+b).toNat).toNat:Int)=a * 16+b:=by
       rw[UInt8.toNat_ofNat'];omega
      simp only[resE,e];rfl
     ·rw[hw];exact z0e bR n
  ·cases hb:escD s[p] with
   | none=>exact y22 s i p hp hlt hb hx w
   | some b=>exact z9t s i p hlt b hb hx w
 ·exact y5j s i p hp (by omega) w
def resF (i:Nat):Step→Value
 | .bad k=> .tuple #[oS,iI (-1),iI ((i+k:Nat):Int)]
 | .var nm k=> .tuple #[nm,iI ((k:Int) - 1),oZ]
 | _=> .tuple #[]
theorem y0n (s:BA) (a n:Nat):s.extract a (a+n)=⟨((s.data.toList.drop a).take n).toArray⟩:=by
 have h:=Lib.extract_data s a (a+n);rw[Nat.add_sub_cancel_left] at h;apply ByteArray.ext;apply Array.ext';exact h
theorem z4h (c:UInt8) (r:Bs):stepVar (c::r)=if c=123 then (if nameLen r=0 then .bad 2 else match r.drop (nameLen r) with
 | []=> .bad (2+nameLen r)
 | d::_=>if d=125 then .var (r.take (nameLen r)) (nameLen r+3) else .bad (2+nameLen r)) else .bad 1:=rfl
theorem z7e (s:BA) (p:Nat) (n:Int) (hn:(n != 123)=true)
  (K:∀ w,Cz 106 #[s,p] w fun e w'=>e= .returned (.int .u8 n)∧w=w') (w:World):
  Cz 107 #[s,p] w fun e w'=>e= .returned (.tuple #[oS,iI (-1),p])∧w=w':=by
 have K:=zz K;go_enter Tryz.func107,Tryz.ntmps107;go_wp2_with (go_at_call 106;((with_reducible refine(K.out _).mono ?_));rintro e w' ⟨rfl,rfl⟩)
 go_ret3
 exact⟨rfl,rfl⟩
theorem z8h (s:BA) (p:Nat) (hp:p<s.size) (hs:s.size≤4611686018427387904) (h123:s[p]=123) (h:nameLen (s.data.toList.drop (p+1))=0) (w:World):
  Cz 107 #[s,p] w fun e w'=>e= .returned (.tuple #[oS,iI (-1),iI ((p:Int)+1)])∧w=w':=by
 have K:=zz fun w=>at_is s p hp 123 (by rw[h123];rfl) w
 clear h123;by_cases h1:p+1<s.size
 ·obtain⟨n,hn⟩:∃ n:Int,n=(s[p+1].toNat:Int):=⟨_,rfl⟩
  have K1:Hid (∀ w,Cz 106 #[s,iI ((p:Int)+1)] w fun e w'=>e= .returned (.int .u8 n)∧w=w'):=zz fun w=>at_is s (p+1) h1 n hn w
  have K2:=zz fun w=>z44 s[p+1] w
  rw[z0h s (p+1) h1,z05] at h
  have hd:isDig s[p+1]=false:=by
   cases hd:isDig s[p+1] with
   | false=>rfl
   | true=>rw[hd] at h;simp at h
  have hl:isLow s[p+1]=false:=by
   cases hl:isLow s[p+1] with
   | false=>rfl
   | true=>rw[hd,hl] at h;simp at h
  rw[hl,←hn] at K2;have hx:¬ (48≤n∧n≤57):=by rw[hn];simpa[isDig] using hd
  have hx2:(n<48∧decide (n≤57)=true)∨(48≤n∧decide (n≤57)=false):=by simp;omega
  clear h hd hl hx hn
  rcases hx2 with ⟨hx2,hx3⟩ | ⟨hx2,hx3⟩
  all_goals
   go_enter Tryz.func107,Tryz.ntmps107;go_wp2_with (first | (go_at_call 106;(first | ((with_reducible refine(K.out _).mono ?_);rintro e w' ⟨rfl,rfl⟩) | ((with_reducible refine(K1.out _).mono ?_);rintro e w' ⟨rfl,rfl⟩))) | (go_at_call 109;((with_reducible refine(K2.out _).mono ?_));rintro e w' ⟨rfl,rfl⟩))
   go_ret3
   exact⟨rfl,rfl⟩
 ·have K1:Hid (∀ w,Cz 106 #[s,iI ((p:Int)+1)] w fun e w'=>e= .returned (.int .u8 0)∧w=w'):=zz fun w=>at_ge s (p+1) h1 w
  clear h;go_enter Tryz.func107,Tryz.ntmps107;go_wp2_with (go_at_call 106;(first | ((with_reducible refine(K.out _).mono ?_);rintro e w' ⟨rfl,rfl⟩) | ((with_reducible refine(K1.out _).mono ?_);rintro e w' ⟨rfl,rfl⟩)))
  go_ret3
  exact⟨rfl,rfl⟩
def EndV (s:BA) (p N:Nat) (x:Int) (w:World) (e:Ending) (w':World):Prop:=
 e= .returned (if x=125 then .tuple #[.string (s.extract (p+1) (p+1+N)),iI ((N:Int)+2),oZ] else .tuple #[oS,iI (-1),iI ((p:Int)+1+N)])∧w=w'
theorem y0q {a b c d:Int} (h:a=b) (g:c=d):Ending.returned (.tuple #[oS,a,c])= .returned (.tuple #[oS,b,d]):=by rw[h,g]
theorem z4u {a b:BA} {c d:Int} (h:a=b) (g:c=d):Ending.returned (.tuple #[a,c,oZ])= .returned (.tuple #[b,d,oZ]):=by rw[h,g]
theorem z8f (s:BA) (p:Nat) (hp:p+1<s.size) (hs:s.size≤4611686018427387904) (h123:s[p]=123) (h:isDig s[p+1]=true) (x:Int)
  (KX:∀ w,Cz 106 #[s,iI ((p:Int)+2)] w fun e w'=>e= .returned (.int .u8 x)∧w=w') (w:World):
  Cz 107 #[s,p] w (EndV s p 1 x w):=by
 have K:=zz fun w=>at_is s p (by omega) 123 (by rw[h123];rfl) w
 have KX:=zz KX;clear h123;obtain⟨n,hn⟩:∃ n:Int,n=(s[p+1].toNat:Int):=⟨_,rfl⟩;have K1:Hid (∀ w,Cz 106 #[s,iI ((p:Int)+1)] w fun e w'=>e= .returned (.int .u8 n)∧w=w'):=zz fun w=>at_is s (p+1) hp n hn w
 have K2:=zz fun w=>z44 s[p+1] w
 have hl:=y7n _ h;rw[hl,←hn] at K2;have hx:48≤n∧n≤57:=by rw[hn];simpa[isDig] using h
 obtain⟨x1,x2⟩:=hx;clear hl h hn;by_cases hx:x=125
 ·subst hx
  go_enter Tryz.func107,Tryz.ntmps107;go_wp2_with (first | (go_at_call 106;(first | ((with_reducible refine(K.out _).mono ?_);rintro e w' ⟨rfl,rfl⟩) | ((with_reducible refine(K1.out _).mono ?_);rintro e w' ⟨rfl,rfl⟩) | ((with_reducible refine(KX.out _).mono ?_);rintro e w' ⟨rfl,rfl⟩))) | (go_at_call 109;((with_reducible refine(K2.out _).mono ?_));rintro e w' ⟨rfl,rfl⟩))
  go_ret3
  exact⟨by rw[if_pos rfl];exact z4u rfl (by omega),rfl⟩
 ·have hx1:(x != 125)=true:=by simpa using hx
  have hx3:(x==125)=false:=by simpa using hx
  go_enter Tryz.func107,Tryz.ntmps107;go_wp2_with (first | (go_at_call 106;(first | ((with_reducible refine(K.out _).mono ?_);rintro e w' ⟨rfl,rfl⟩) | ((with_reducible refine(K1.out _).mono ?_);rintro e w' ⟨rfl,rfl⟩) | ((with_reducible refine(KX.out _).mono ?_);rintro e w' ⟨rfl,rfl⟩))) | (go_at_call 109;((with_reducible refine(K2.out _).mono ?_));rintro e w' ⟨rfl,rfl⟩))
  go_ret3
  exact⟨by rw[if_neg hx];exact y0q rfl (by omega),rfl⟩
theorem y1a (s:BA) (p N:Nat) (hp:p+1<s.size) (hs:s.size≤4611686018427387904) (h123:s[p]=123) (h:isLow s[p+1]=true) (hN:N=tk 7 (s.data.toList.drop (p+2))+1) (x:Int)
  (KX:∀ (a:Int),a=(p:Int)+1+N→∀ w,Cz 106 #[s,a] w fun e w'=>e= .returned (.int .u8 x)∧w=w') (w:World):
  Cz 107 #[s,p] w (EndV s p N x w):=by
 have K:=zz fun w=>at_is s p (by omega) 123 (by rw[h123];rfl) w
 have KX:=zz KX;clear h123;obtain⟨n,hn⟩:∃ n:Int,n=(s[p+1].toNat:Int):=⟨_,rfl⟩;have K1:Hid (∀ w,Cz 106 #[s,iI ((p:Int)+1)] w fun e w'=>e= .returned (.int .u8 n)∧w=w'):=zz fun w=>at_is s (p+1) hp n hn w
 have K2:=zz fun w=>z44 s[p+1] w
 rw[h,←hn] at K2;have HN:=zz hN;clear h hn hN;have hdz:decide (s.size≤p+1)=false:=by simp;omega
 have hdy:decide ((s.size:Int)≤(p:Int)+1)=false:=by simp;omega
 go_enter Tryz.func107,Tryz.ntmps107;go_wp2_with (first | (go_at_call 106;(first | ((with_reducible refine(K.out _).mono ?_);rintro e w' ⟨rfl,rfl⟩) | ((with_reducible refine(K1.out _).mono ?_);rintro e w' ⟨rfl,rfl⟩))) | (go_at_call 109;((with_reducible refine(K2.out _).mono ?_));rintro e w' ⟨rfl,rfl⟩))
 go_loop [8] (fun v=>∃ k:Nat,p+2≤k∧k≤p+9∧k≤s.size∧v= .int .i64 k∧N=tk (p+9 - k) (s.data.toList.drop k)+(k - (p+1))) (fun v=>p+9 - (intOf v).toNat)
 case atStart=>exact⟨p+2,by omega,by omega,by omega,by go_num,by rw[HN.out,show p+9 - (p+2)=7 by omega,show p+2 - (p+1)=1 by omega]⟩
 case round=>
  obtain⟨k,k1,k9,hk,rfl,hn⟩:=hrel;have HK:=zz hn;clear hn;by_cases a:k<s.size
  ·by_cases b:k<p+9
   ·have KI:=zz fun w=>y2h s[k] w
    have hd:=z0h s k a;by_cases c:isIn s[k]=true
    ·rw[c] at KI
     have HX:Hid (N=tk (p+9 - (k+1)) (s.data.toList.drop (k+1))+(k+1 - (p+1))):=by
      apply Lib.hid;rw[HK.out,hd,show p+9 - k=(p+9 - (k+1))+1 by omega,z2a,if_pos c];omega
     clear hd c;go_wp2_with (go_at_call 109;((with_reducible refine(KI.out _).mono ?_));rintro e w' ⟨rfl,rfl⟩)
     go_round
     case rel=>exact⟨k+1,by omega,by omega,by omega,by go_num,HX.out⟩
     case measure=>simp[intOf];omega
    ·rw[Bool.eq_false_iff.2 c] at KI
     have HX:Hid (k=p+1+N):=by
      apply Lib.hid;have h2:=HK.out;rw[hd,show p+9 - k=(p+9 - (k+1))+1 by omega,z2a,if_neg c] at h2;omega
     have KE:=zz (KX.out k (by have:=HX.out;omega));clear hd c;by_cases hx:x=125
     ·subst hx
      go_wp2_with (first | (go_at_call 109;((with_reducible refine(KI.out _).mono ?_));rintro e w' ⟨rfl,rfl⟩) | (go_at_call 106;((with_reducible refine(KE.out _).mono ?_));rintro e w' ⟨rfl,rfl⟩))
      go_ret3
      exact⟨by rw[if_pos rfl,←HX.out];exact z4u rfl (by have:=HX.out;omega),rfl⟩
     ·have hx1:(x != 125)=true:=by simpa using hx
      go_wp2_with (first | (go_at_call 109;((with_reducible refine(KI.out _).mono ?_));rintro e w' ⟨rfl,rfl⟩) | (go_at_call 106;((with_reducible refine(KE.out _).mono ?_));rintro e w' ⟨rfl,rfl⟩))
      go_ret3
      exact⟨by rw[if_neg hx];exact y0q rfl (by have:=HX.out;omega),rfl⟩
   ·have HX:Hid (k=p+1+N):=by
     apply Lib.hid;have h2:=HK.out;rw[show p+9 - k=0 by omega] at h2;simp[tk] at h2;omega
    have KE:=zz (KX.out k (by have:=HX.out;omega));by_cases hx:x=125
    ·subst hx
     go_wp2_with (go_at_call 106;((with_reducible refine(KE.out _).mono ?_));rintro e w' ⟨rfl,rfl⟩)
     go_ret3
     exact⟨by rw[if_pos rfl,←HX.out];exact z4u rfl (by have:=HX.out;omega),rfl⟩
    ·have hx1:(x != 125)=true:=by simpa using hx
     go_wp2_with (go_at_call 106;((with_reducible refine(KE.out _).mono ?_));rintro e w' ⟨rfl,rfl⟩)
     go_ret3
     exact⟨by rw[if_neg hx];exact y0q rfl (by have:=HX.out;omega),rfl⟩
  ·have HX:Hid (k=p+1+N):=by
    apply Lib.hid;have h2:=HK.out;rw[z07 s k a] at h2;have:tk (p+9 - k) []=0:=by cases p+9 - k <;> simp[tk]
    omega
   have KE:=zz (KX.out k (by have:=HX.out;omega));by_cases hx:x=125
   ·subst hx
    go_wp2_with (go_at_call 106;((with_reducible refine(KE.out _).mono ?_));rintro e w' ⟨rfl,rfl⟩)
    go_ret3
    exact⟨by rw[if_pos rfl,←HX.out];exact z4u rfl (by have:=HX.out;omega),rfl⟩
   ·have hx1:(x != 125)=true:=by simpa using hx
    go_wp2_with (go_at_call 106;((with_reducible refine(KE.out _).mono ?_));rintro e w' ⟨rfl,rfl⟩)
    go_ret3
    exact⟨by rw[if_neg hx];exact y0q rfl (by have:=HX.out;omega),rfl⟩
theorem x5q (s:BA) (k:Nat) (x:Int) (hx:x=match s.data.toList.drop k with | []=>0 | d::_=>(d.toNat:Int)) (a:Int) (ha:a=k) (w:World):
  Cz 106 #[s,a] w fun e w'=>e= .returned (.int .u8 x)∧w=w':=by
 rw[ha];by_cases h:k<s.size
 ·rw[z0h s k h] at hx
  exact at_is s k h x hx w
 ·rw[z07 s k h] at hx
  rw[hx];exact at_ge s k h w
theorem y2m (s:BA) (i p:Nat) (hpi:p=i+1) (hs:s.size≤4611686018427387904) (w:World):
  Cz 107 #[s,p] w fun e w'=>e= .returned (resF i (stepVar (s.data.toList.drop p)))∧w=w':=by
 by_cases hlt:p<s.size
 ·have hd:=z0h s p hlt
  by_cases h123:s[p]=123
  ·rw[hd,z4h,if_pos h123]
   by_cases h0:nameLen (s.data.toList.drop (p+1))=0
   ·rw[if_pos h0]
    refine(z8h s p hlt hs h123 h0 w).mono fun e w' ⟨he,hw⟩=>⟨?_,hw⟩
    rw[he];simp only[resF];congr;omega
   ·rw[if_neg h0]
    obtain⟨N,hN⟩:∃ N,N=nameLen (s.data.toList.drop (p+1)):=⟨_,rfl⟩;rw[←hN] at h0 ⊢
    have h1:p+1<s.size:=by
     by_cases h1:p+1<s.size
     ·exact h1
     ·rw[z07 s (p+1) h1] at hN;exact absurd hN h0
    have e2:(s.data.toList.drop (p+1)).drop N=s.data.toList.drop (p+1+N):=by rw[List.drop_drop]
    rw[e2];obtain⟨x,hx⟩:∃ x:Int,x=match s.data.toList.drop (p+1+N) with | []=>0 | d::_=>(d.toNat:Int):=⟨_,rfl⟩
    have KX:=x5q s (p+1+N) x hx
    have main:Cz 107 #[s,p] w (EndV s p N x w):=by
     have hd1:=z0h s (p+1) h1;rw[hd1,z05] at hN;by_cases a:isDig s[p+1]=true
     ·rw[if_pos a] at hN
      subst hN;exact z8f s p h1 hs h123 a x (fun w=>KX _ (by omega) w) w
     ·rw[if_neg a] at hN
      by_cases b:isLow s[p+1]=true
      ·rw[if_pos b] at hN
       exact y1a s p N h1 hs h123 b hN x (fun a ha w=>KX a (by omega) w) w
      ·rw[if_neg b] at hN;exact absurd hN h0
    refine main.mono fun e w' ⟨he,hw⟩=>⟨?_,hw⟩
    rw[he]
    cases hr:s.data.toList.drop (p+1+N) with
    | nil=>
      rw[hr] at hx;rw[if_neg (by rw[hx];decide)];simp only[resF];congr;omega
    | cons d t=>
      rw[hr] at hx;by_cases hd125:d=125
      ·rw[if_pos (by rw[hx,hd125];rfl)]
       simp only[if_pos hd125,resF];rw[y0n];exact z4u rfl (by omega)
      ·rw[if_neg (by rw[hx];intro e;apply hd125;rw[←UInt8.toNat_inj];show d.toNat=125;simp only at e;omega)]
       simp only[if_neg hd125,resF];congr;omega
  ·have hn:((s[p].toNat:Int) != 123)=true:=by
    have:=z0s (n:=123) h123 (by omega);simp only[bne];simpa using this
   rw[hd,z4h,if_neg h123];refine(z7e s p _ hn (at_lt s p hlt) w).mono fun e w' ⟨he,hw⟩=>⟨?_,hw⟩
   rw[he,hpi];rfl
 ·rw[z07 s p hlt]
  refine(z7e s p 0 (by decide) (at_ge s p hlt) w).mono fun e w' ⟨he,hw⟩=>⟨?_,hw⟩
  rw[he,hpi];rfl
theorem z49 (s:BA) (hs:s.size≤281474976710656) (w:World):
  Cz 89 #[s] w fun e w'=>e= .returned (.string s)∧Below w.heap.size w w':=by
 have K:=zz fun w=>Tryz.stringslite_Clone s w hs
 go_enter Tryz.func89,Tryz.ntmps89;go_wp2_with (go_at_call 118;((with_reducible refine(K.out _).mono ?_));rintro e w' ⟨rfl,hb⟩);go_ret;exact⟨rfl,hb⟩
def resV (i:Nat):Step→Value
 | .bad k=> .tuple #[oS,iI ((i+k:Nat):Int),.bool false]
 | .var nm k=> .tuple #[nm,iI ((i+k:Nat):Int),.bool true]
 | _=> .tuple #[]
theorem y5f (s:BA) (a b:Nat) (hb:b≤s.size):(s.extract a b).size=b - a:=by
 have h:=congrArg List.length (Lib.extract_data s a b);rw[z0d,List.length_take,List.length_drop,z0d] at h;omega
theorem y33 {x:BA} {y:Bool} {a b:Int} (h:a=b):Value.tuple #[x,a,.bool y]= .tuple #[x,b,.bool y]:=by rw[h]
theorem z9y (s:BA) (i:Nat) (hi:i+1=s.size) (hs:s.size≤4611686018427387904) (w:World):
  Cz 123 #[s,i] w fun e w'=>e= .returned (.tuple #[oS,iI ((i:Int)+1),.bool false])∧w=w':=by
 go_enter Tryz.func123,Tryz.ntmps123;go_wp2
 go_ret3
 exact⟨rfl,rfl⟩
theorem y2i (s:BA) (i:Nat) (hi:i+1<s.size) (hs:s.size≤4611686018427387904) (h:s[i+1]≠123) (w:World):
  Cz 123 #[s,i] w fun e w'=>e= .returned (.tuple #[oS,iI ((i:Int)+1),.bool false])∧w=w':=by
 have h1:((s[i+1].toNat:Int) != 123)=true:=by
  have:=z0s (n:=123) h (by omega);simp only[bne];simpa using this
 clear h;go_enter Tryz.func123,Tryz.ntmps123;go_wp2
 go_ret3
 exact⟨rfl,rfl⟩
theorem y19 (s:BA) (i n:Nat) (hi:i+1<s.size) (hs:s.size≤4611686018427387904) (h:s[i+1]=123) (hn:n=nameLen (s.data.toList.drop (i+2))) (w:World):
  Cz 123 #[s,i] w fun e w'=>e= .returned (resV i (stepVar (s.data.toList.drop (i+1))))∧Below w.heap.size w w':=by
 have h1:((s[i+1].toNat:Int) != 123)=false:=by
  have:=z08 (n:=123) h (by omega);simp only[bne];simpa using this
 have hd:s.data.toList.drop (i+1)=123::s.data.toList.drop (i+2):=by rw[z0h s (i+1) hi,h]
 rw[hd,z4h,if_pos rfl,←hn,List.drop_drop];have hle:=(z3f (s.data.toList.drop (i+2)));rw[←hn,List.length_drop,z0d] at hle;obtain⟨hle,hn8⟩:=hle
 have e2:(s.extract (i+2) s.size).data.toList=s.data.toList.drop (i+2):=by
  rw[Lib.extract_data,List.take_of_length_le (by rw[List.length_drop,z0d];omega)]
 have hsz:=y5f s (i+2) s.size nR;have K1:=zz fun w=>z5a (s.extract (i+2) s.size) (by omega) w
 rw[e2,←hn] at K1;clear h e2 hsz;by_cases h0:n=0
 ·rw[if_pos h0]
  have HR:Hid (resV i (.bad 2)= .tuple #[oS,iI ((i:Int)+2),.bool false]):=by apply Lib.hid;rfl
  rw[HR.out];subst h0;clear hd hn;go_enter Tryz.func123,Tryz.ntmps123;go_wp2_with (go_at_call 130;((with_reducible refine(K1.out _).mono ?_));rintro e w' ⟨rfl,rfl⟩)
  go_ret3
  exact⟨rfl,Below.refl _ _⟩
 ·rw[if_neg h0]
  have hb:(((i:Int)+2+n)==(i:Int)+2)=false:=by simp;omega
  have hb2:((i+2+n)==i+2)=false:=by simp;omega
  have hb3:((n:Int)==0)=false:=by simp;omega
  by_cases hlt:i+2+n<s.size
  ·rw[z0h s (i+2+n) hlt]
   have hc:(((i:Int)+2+n)==(s.size:Int))=false:=by simp;omega
   by_cases h125:s[i+2+n]=125
   ·simp only[h125,if_true]
    have hx:((s[i+2+n].toNat:Int) != 125)=false:=by
     have:=z08 (n:=125) h125 (by omega);simp only[bne];simpa using this
    have hl2:=y5f s (i+2) (i+2+n) (by omega);have K2:=zz fun w=>z49 (s.extract (i+2) (i+2+n)) (by omega) w
    have HR:Hid (resV i (.var ((s.data.toList.drop (i+2)).take n) (n+3))= .tuple #[.string (s.extract (i+2) (i+2+n)),iI ((i:Int)+2+n+1),.bool true]):=by
     apply Lib.hid;rw[y0n];exact y33 (by omega)
    rw[HR.out];clear hd hn h125 hl2;go_enter Tryz.func123,Tryz.ntmps123;go_wp2_with (first | (go_at_call 130;((with_reducible refine(K1.out _).mono ?_));rintro e w' ⟨rfl,rfl⟩) | (go_at_call 89;((with_reducible refine(K2.out _).mono ?_));rintro e w' ⟨rfl,hbw⟩))
    go_ret3
    exact⟨rfl,hbw⟩
   ·simp only[if_neg h125]
    have hx:((s[i+2+n].toNat:Int) != 125)=true:=by
     have:=z0s (n:=125) h125 (by omega);simp only[bne];simpa using this
    have HR:Hid (resV i (.bad (2+n))= .tuple #[oS,iI ((i:Int)+2+n),.bool false]):=by apply Lib.hid;exact y33 (by omega)
    rw[HR.out];clear hd hn h125;go_enter Tryz.func123,Tryz.ntmps123;go_wp2_with (go_at_call 130;((with_reducible refine(K1.out _).mono ?_));rintro e w' ⟨rfl,rfl⟩)
    go_ret3
    exact⟨rfl,Below.refl _ _⟩
  ·rw[z07 s (i+2+n) hlt]
   have hc:(((i:Int)+2+n)==(s.size:Int))=true:=by simp;omega
   have HR:Hid (resV i (.bad (2+n))= .tuple #[oS,iI ((i:Int)+2+n),.bool false]):=by apply Lib.hid;exact y33 (by omega)
   simp only;rw[HR.out];clear hd hn;go_enter Tryz.func123,Tryz.ntmps123;go_wp2_with (go_at_call 130;((with_reducible refine(K1.out _).mono ?_));rintro e w' ⟨rfl,rfl⟩)
   go_ret3
   exact⟨rfl,Below.refl _ _⟩
theorem y3y (s:BA) (i:Nat) (hi:i<s.size) (hs:s.size≤4611686018427387904) (w:World):
  Cz 123 #[s,i] w fun e w'=>e= .returned (resV i (stepVar (s.data.toList.drop (i+1))))∧Below w.heap.size w w':=by
 by_cases h1:i+1<s.size
 ·by_cases h:s[i+1]=123
  ·exact y19 s i _ h1 hs h rfl w
  ·refine(y2i s i h1 hs h w).mono fun e w' ⟨he,hw⟩=>⟨?_,by rw[hw];exact Below.refl _ _⟩
   rw[he,z0h s (i+1) h1,z4h,if_neg h];rfl
 ·refine(z9y s i (by omega) hs w).mono fun e w' ⟨he,hw⟩=>⟨?_,by rw[hw];exact Below.refl _ _⟩
  rw[he,z07 s (i+1) h1];rfl
end Go.Proofs.YtngfihoempcplaaGreatDoor
