import Derived.Below
import Derived.Deep.Draws
import Derived.Test.YtngfihoempcplaaGreatDoorCf
import Derived.Test.YtngfihoempcplaaGreatDoorName2
namespace Go.Proofs.YtngfihoempcplaaGreatDoor
open Go Go.RowKit
theorem z0e {B:Nat} {a w:World} (h:Below B a w) (n:Nat):Below B a (w.drewN n):=⟨h.os,h.tape,h.output,h.size,h.block⟩
def resE (i:Nat):Step→Value
 | .bad k=> .tuple #[.int .u8 0,iI (-1),iI ((i+k:Nat):Int)]
 | .byte b k=> .tuple #[.int .u8 b.toNat,iI ((k:Int) - 1),oZ]
 | _=> .tuple #[]
theorem at_is (s:BA) (p:Nat) (hp:p<s.size) (n:Int) (hn:n=s[p].toNat) (w:World):
  Cz 106 #[s,p] w fun e w'=>e= .returned (.int .u8 n)∧w=w':=by
 rw[hn];exact at_lt s p hp w
theorem z47 (c:UInt8) (v:Int) (hv:hexD c=v) (w:World):Cz 134 #[.int .u8 c.toNat] w fun e w'=>e= .returned (.int .i64 v)∧w=w':=by
 rw[←hv];exact y7h c w
theorem z8t {P:Program} {f:FuncId} {args:Array Value} {w:World} {n:Nat} {v:Value}
  (h:Calls P f args (w.drewN n) fun e w'=>e= .returned v∧w.drewN n=w'):Calls P f args (w.drewN n) fun e w''=>e= .returned v∧∃ m,w''=w.drewN m:=
 h.mono fun _ _ ⟨he,hm⟩=>⟨he,n,hm.symm⟩
theorem z9t (s:BA) (i p:Nat) (hi:p<s.size) (b:UInt8) (hb:escD s[p]=some b) (h120:s[p]≠120) (w:World):
  Cz 108 #[s,p] w fun e w'=>e= .returned (resE i (stepEsc (s.data.toList.drop p)))∧Below w.heap.size w w':=by
 rw[z0h s p hi,y9p _ b _ h120 hb];have hc:∃ c,c=s[p]:=⟨_,rfl⟩;obtain⟨c,hc⟩:=hc;rw[←hc] at hb h120
 have key:∀ n:Int,n=(c.toNat:Int)→(n=110∧b=10)∨(n=114∧b=13)∨(n=116∧b=9)∨(n=34∧b=34)∨(n=92∧b=92)∨(n=36∧b=36):=by
  intro n hn;unfold escD at hb
  split at hb
  ·rename_i h;subst h;injection hb with hb;exact .inl ⟨hn,hb.symm⟩
  ·split at hb
   ·rename_i h;subst h;injection hb with hb;exact .inr (.inl ⟨hn,hb.symm⟩)
   ·split at hb
    ·rename_i h;subst h;injection hb with hb;exact .inr (.inr (.inl ⟨hn,hb.symm⟩))
    ·split at hb
     ·rename_i h;subst h;injection hb with hb;exact .inr (.inr (.inr (.inl ⟨hn,hb.symm⟩)))
     ·split at hb
      ·rename_i h;subst h;injection hb with hb;exact .inr (.inr (.inr (.inr (.inl ⟨hn,hb.symm⟩))))
      ·split at hb
       ·rename_i h;subst h;injection hb with hb;exact .inr (.inr (.inr (.inr (.inr ⟨hn,hb.symm⟩))))
       ·cases hb
 have K:=zz fun n hn w=>at_is s p hi n hn w
 obtain⟨n,hn⟩:∃ n:Int,n=(c.toNat:Int):=⟨_,rfl⟩;have K':=zz fun w=>K.out n (hn.trans (by rw[hc])) w
 have key':=key n hn;clear key hn hc hb h120 K
 rcases key' with ⟨rfl,rfl⟩ | ⟨rfl,rfl⟩ | ⟨rfl,rfl⟩ | ⟨rfl,rfl⟩ | ⟨rfl,rfl⟩ | ⟨rfl,rfl⟩
 all_goals
  go_enter Tryz.func108,Tryz.ntmps108;go_wp2_with (go_at_call 106;((with_reducible refine(K'.out _).mono ?_));rintro e w' ⟨rfl,rfl⟩)
  go_ret3
  exact⟨rfl,Below.refl _ _⟩
theorem y22 (s:BA) (i p:Nat) (hp:p=i+1) (hi:p<s.size) (hb:escD s[p]=none) (h120:s[p]≠120) (w:World):
  Cz 108 #[s,p] w fun e w'=>e= .returned (resE i (stepEsc (s.data.toList.drop p)))∧Below w.heap.size w w':=by
 rw[z0h s p hi,z8n h120 hb];have HR:Hid (resE i (.bad 1)= .tuple #[.int .u8 0,iI (-1),p]):=by apply Lib.hid;rw[hp];rfl
 rw[HR.out]
 have hne:s[p]≠110∧s[p]≠114∧s[p]≠116∧s[p]≠34∧s[p]≠92∧s[p]≠36:=by
  refine⟨?_,?_,?_,?_,?_,?_⟩ <;> (intro e;rw[e] at hb;revert hb;decide)
 obtain⟨e1,e2,e3,e4,e5,e6⟩:=hne;obtain⟨n,hn⟩:∃ n:Int,n=(s[p].toNat:Int):=⟨_,rfl⟩;have f1:(n==110)=false:=by rw[hn];exact z0s (n:=110) e1 (by omega)
 have f2:(n==114)=false:=by rw[hn];exact z0s (n:=114) e2 (by omega)
 have f3:(n==116)=false:=by rw[hn];exact z0s (n:=116) e3 (by omega)
 have f4:(n==34)=false:=by rw[hn];exact z0s (n:=34) e4 (by omega)
 have f5:(n==92)=false:=by rw[hn];exact z0s (n:=92) e5 (by omega)
 have f6:(n==36)=false:=by rw[hn];exact z0s (n:=36) e6 (by omega)
 have f7:(n==120)=false:=by rw[hn];exact z0s (n:=120) h120 (by omega)
 have f8:(n != 120)=true:=by simp[bne,f7]
 have K:=zz fun w=>at_is s p hi n hn w
 clear hn e1 e2 e3 e4 e5 e6 hb h120 hp;go_enter Tryz.func108,Tryz.ntmps108;go_wp2_with (go_at_call 106;((with_reducible refine(K.out _).mono ?_));rintro e w' ⟨rfl,rfl⟩)
 go_ret3
 exact⟨rfl,Below.refl _ _⟩
theorem y5j (s:BA) (i p:Nat) (hp:p=i+1) (hi:p=s.size) (w:World):
  Cz 108 #[s,p] w fun e w'=>e= .returned (resE i (stepEsc (s.data.toList.drop p)))∧Below w.heap.size w w':=by
 rw[z07 s p (by omega)];have HR:Hid (resE i (stepEsc [])= .tuple #[.int .u8 0,iI (-1),p]):=by apply Lib.hid;rw[hp];rfl
 rw[HR.out];subst hi;have K:=zz fun w=>at_ge s s.size (by omega) w
 clear hp;go_enter Tryz.func108,Tryz.ntmps108;go_wp2_with (go_at_call 106;((with_reducible refine(K.out _).mono ?_));rintro e w' ⟨rfl,rfl⟩)
 go_ret3
 exact⟨rfl,Below.refl _ _⟩
theorem z64 (r:Bs):stepEsc (120::r)=stepHex r:=rfl
theorem z4g (s:BA) (i:Nat) (h:i<s.size):lookH (s.data.toList.drop i)=hexD s[i]:=by rw[z0h s i h];rfl
def Two (v:Value):Prop:=v= .int .i64 1∨v= .int .i64 2
def Three (v:Value):Prop:=v= .int .i64 1∨v= .int .i64 2∨v= .int .i64 3
theorem y2z (s:BA) (p:Nat) (hi:p<s.size) (hs:s.size≤4611686018427387904) (h120:s[p]=120) (h:lookH (s.data.toList.drop (p+1))<0) (w:World):
  Cz 108 #[s,p] w fun e w'=>e= .returned (.tuple #[.int .u8 0,iI (-1),iI ((p:Int)+1)])∧w=w':=by
 have K:=zz fun w=>at_is s p hi 120 (by rw[h120];rfl) w
 clear h120;by_cases h1:p+1<s.size
 ·rw[z4g s (p+1) h1] at h
  obtain⟨v,hv⟩:∃ v,hexD s[p+1]=v:=⟨_,rfl⟩;have K1:=zz fun w=>z47 s[p+1] v hv w
  rw[hv] at h;clear hv;go_enter Tryz.func108,Tryz.ntmps108;go_wp2_with (go_at_call 106;((with_reducible refine(K.out _).mono ?_));rintro e w' ⟨rfl,rfl⟩)
  go_loop [8] (fun k=>k= .int .i64 1) (fun _=>0)
  case atStart=>exact rfl
  case round=>
   obtain rfl:=hrel;go_wp2_with (go_at_call 134;((with_reducible refine(K1.out _).mono ?_));rintro e w' ⟨rfl,rfl⟩)
   go_ret3
   exact⟨rfl,rfl⟩
 ·clear h
  go_enter Tryz.func108,Tryz.ntmps108;go_wp2_with (go_at_call 106;((with_reducible refine(K.out _).mono ?_));rintro e w' ⟨rfl,rfl⟩)
  go_loop [8] (fun k=>k= .int .i64 1) (fun _=>0)
  case atStart=>exact rfl
  case round=>
   obtain rfl:=hrel;go_wp2
   go_ret3
   exact⟨rfl,rfl⟩
theorem y3b (s:BA) (p:Nat) (hi:p+1<s.size) (hs:s.size≤4611686018427387904) (h120:s[p]=120) (h:¬ hexD s[p+1]<0) (h':lookH (s.data.toList.drop (p+2))<0) (w:World):
  Cz 108 #[s,p] w fun e w'=>e= .returned (.tuple #[.int .u8 0,iI (-1),iI ((p:Int)+2)])∧w=w':=by
 have K:=zz fun w=>at_is s p (by omega) 120 (by rw[h120];rfl) w
 clear h120;have hdz:decide (s.size≤p)=false:=by simp;omega
 obtain⟨v,hv⟩:∃ v,hexD s[p+1]=v:=⟨_,rfl⟩;have K1:=zz fun w=>z47 s[p+1] v hv w
 rw[hv] at h;clear hv;by_cases h1:p+2<s.size
 ·rw[z4g s (p+2) h1] at h'
  obtain⟨u,hu⟩:∃ u,hexD s[p+2]=u:=⟨_,rfl⟩;have K2:=zz fun w=>z47 s[p+2] u hu w
  rw[hu] at h';clear hu;go_enter Tryz.func108,Tryz.ntmps108;go_wp2_with (go_at_call 106;((with_reducible refine(K.out _).mono ?_));rintro e w' ⟨rfl,rfl⟩)
  go_loop [8] (fun k=>Two k) (fun k=>2 - (intOf k).toNat)
  case atStart=>exact .inl rfl
  case round=>
   rcases hrel with rfl | rfl
   ·go_wp2_with (go_at_call 134;((with_reducible refine(K1.out _).mono ?_));rintro e w' ⟨rfl,rfl⟩)
    go_round
    case rel=>exact .inr rfl
    case measure=>simp[intOf]
   ·go_wp2_with (go_at_call 134;((with_reducible refine(K2.out _).mono ?_));rintro e w' ⟨rfl,rfl⟩)
    go_ret3
    exact⟨rfl,rfl⟩
 ·clear h'
  go_enter Tryz.func108,Tryz.ntmps108;go_wp2_with (go_at_call 106;((with_reducible refine(K.out _).mono ?_));rintro e w' ⟨rfl,rfl⟩)
  go_loop [8] (fun k=>Two k) (fun k=>2 - (intOf k).toNat)
  case atStart=>exact .inl rfl
  case round=>
   rcases hrel with rfl | rfl
   ·go_wp2_with (go_at_call 134;((with_reducible refine(K1.out _).mono ?_));rintro e w' ⟨rfl,rfl⟩)
    go_round
    case rel=>exact .inr rfl
    case measure=>simp[intOf]
   ·go_wp2
    go_ret3
    exact⟨rfl,rfl⟩
theorem y28 (s:BA) (p:Nat) (hi:p+2<s.size) (hs:s.size≤4611686018427387904) (h120:s[p]=120) (h:¬ hexD s[p+1]<0) (h':¬ hexD s[p+2]<0) (w:World):
  Cz 108 #[s,p] w fun e w'=>e= .returned (.tuple #[.int .u8 (hexD s[p+1] * 16+hexD s[p+2]),iI 3,oZ])∧∃ n,w'=w.drewN n:=by
 have K:=zz fun w=>at_is s p (by omega) 120 (by rw[h120];rfl) w
 clear h120;have hdz:decide (s.size≤p)=false:=by simp;omega
 have hb1:=y3k s[p+1];have hb2:=y3k s[p+2];obtain⟨v,hv⟩:∃ v,hexD s[p+1]=v:=⟨_,rfl⟩;have K1:=zz fun w=>z47 s[p+1] v hv w
 rw[hv] at h hb1 ⊢;obtain⟨u,hu⟩:∃ u,hexD s[p+2]=u:=⟨_,rfl⟩;have K2:=zz fun w=>z47 s[p+2] u hu w
 rw[hu] at h' hb2 ⊢;obtain⟨_,b12⟩:=hb1;obtain⟨_,b22⟩:=hb2;clear hu hv;go_enter Tryz.func108,Tryz.ntmps108;go_wp2_with (go_at_call 106;((with_reducible refine(K.out _).mono ?_));rintro e w' ⟨rfl,rfl⟩)
 go_loop [8] (fun k=>Three k) (fun k=>3 - (intOf k).toNat)
 case atStart=>exact .inl rfl
 case round=>
  rcases hrel with rfl | rfl | rfl
  ·go_wp2_with (go_at_call 134;((with_reducible refine(K1.out _).mono ?_));rintro e w' ⟨rfl,rfl⟩)
   go_round
   case rel=>exact .inr (.inl rfl)
   case measure=>simp[intOf]
  ·go_wp2_with (go_at_call 134;((with_reducible refine(K2.out _).mono ?_));rintro e w' ⟨rfl,rfl⟩)
   go_round
   case rel=>exact .inr (.inr rfl)
   case measure=>simp[intOf]
  ·have q1:IntKind.i64.wrap ((p:Int)+1)=(p:Int)+1:=IntWalk.i64_in _ (by omega)
   have q2:IntKind.i64.wrap ((p:Int)+2)=(p:Int)+2:=IntWalk.i64_in _ (by omega);have q3:0≤(p:Int)+1:=by omega
   have q4:0≤(p:Int)+2:=by omega
   have q5:((p:Int)+1).toNat=p+1:=by omega
   have q6:((p:Int)+2).toNat=p+2:=by omega
   have q7:(p:Int)+1<s.size:=by omega
   have q8:(p:Int)+2<s.size:=by omega
   have q9:p+1<s.size:=by omega
   have q10:IntKind.i64.wrap (v * 16)=v * 16:=IntWalk.i64_in _ (by omega);have q11:IntKind.i64.wrap (v * 16+u)=v * 16+u:=IntWalk.i64_in _ (by omega);have q12:IntKind.u8.wrap (v * 16+u)=v * 16+u:=IntWalk.u8_in _ (by omega);go_wp2;go_quiet ((go_at_call 134;(first | (with_reducible exact z8t (K1.out _)) | (with_reducible exact z8t (K2.out _)))));go_wp2
   go_ret3
   exact⟨rfl,_,rfl⟩
end Go.Proofs.YtngfihoempcplaaGreatDoor
