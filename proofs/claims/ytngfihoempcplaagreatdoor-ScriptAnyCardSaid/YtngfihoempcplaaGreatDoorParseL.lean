import Derived.Test.YtngfihoempcplaaGreatDoorCf
import Derived.Test.YtngfihoempcplaaGreatDoorMem
namespace Go.Proofs.YtngfihoempcplaaGreatDoor
open Go Go.RowKit
set_option maxHeartbeats 2000000
theorem z8b (B:Nat) (w0 w:World) (vp vt:Value) (ps:List Pt) (t:Bs) (hp:ps.length≤1000000) (h:Two2 B w0 w vp vt ps t):Cz 124 #[vp,vt] w (Added B w0 vt (flush ps t) t):=by
 by_cases h0:t=[]
 ·subst h0;exact y5x B w0 w vp vt ps h
 ·exact y2y B w0 w vp vt ps t hp h0 h
theorem x2m {w:World} {B g n cap:Nat} {xs:List Value} (h:w.ownsRow B 5 1 (.slice (some ⟨g,0,none⟩) n cap) n xs):w.ownsRow B 5 1 (.slice (some ⟨g,0,none⟩) 0 cap) 0 []:=by
 refine⟨rfl,?_⟩
 rcases h.2 with ⟨h',_⟩ | ⟨g',cap',cur,h',hb,hg,hc,hm,hs,_⟩
 ·simp at h'
 ·simp only[Value.slice.injEq,Option.some.injEq,Addr.mk.injEq,and_true,true_and] at h'
  obtain⟨rfl,rfl⟩:=h';exact .inr ⟨g,cap,cur,rfl,hb,hg,Nat.zero_le _,hm,hs,by simp⟩
theorem Two2.cut {B:Nat} {w0 w:World} {vp:Value} {ps:List Pt} {t:Bs} {g cap n:Nat} (h:Two2 B w0 w vp (.slice (some ⟨g,0,none⟩) n cap) ps t) (hn:n=t.length):Two2 B w0 w vp (.slice (some ⟨g,0,none⟩) 0 cap) ps []:=
 ⟨h.parts,x2m (n:=n) (xs:=byteCells t) (by rw[hn];rw[hn] at h;exact h.text),h.below,h.size⟩
theorem Two2.nilt {B:Nat} {w0 w:World} {vp:Value} {ps:List Pt} {t:Bs} (h:Two2 B w0 w vp (.slice none 0 0) ps t):Two2 B w0 w vp (.slice none 0 0) ps []:=
 ⟨h.parts,World.ownsRow_nil _ _ _ _,h.below,h.size⟩
theorem Two2.byte {B:Nat} {w0 w w':World} {vp vt v':Value} {ps:List Pt} {t:Bs} {b:UInt8} (h:Two2 B w0 w vp vt ps t)
  (ho:w'.ownsRow B 5 1 v' (t.length+1) (byteCells t++[.int .u8 b.toNat])) (hg:w.grownBy w' vt.ownBlock):Two2 B w0 w' vp v' ps (t++[b]):=
 ⟨h.parts.kept hg (y1x h.parts h.text (by decide)),by rw[List.length_append];simpa[byteCells,Lib.byteCells] using ho,h.below.grown hg h.size (fun k hk=>(h.text.lt k hk).1),Nat.le_trans h.size hg.size⟩
theorem z25 {w w':World} {B e s n:Nat} {v:Value} {xs:List Value} (h:w.ownsRow B e s v n xs) (hb:Below w.heap.size w w'):w'.ownsRow B e s v n xs:=
 h.kept (row:=none) ⟨hb.os,hb.tape,hb.output,hb.size,fun k hk _=>hb.block k hk⟩ (by cases v.ownBlock <;> simp)
theorem Two2.beyond {B:Nat} {w0 w w':World} {vp vt:Value} {ps:List Pt} {t:Bs} (h:Two2 B w0 w vp vt ps t) (hb:Below w.heap.size w w'):Two2 B w0 w' vp vt ps t:=
 ⟨z25 h.parts hb,z25 h.text hb,h.below.trans (hb.mono h.size),Nat.le_trans h.size hb.size⟩
def errOf (o:Option (List Pt)):Int:=match o with | none=>1 | some _=>0
def outOf (o:Option (List Pt)):List Pt:=match o with | none=>[] | some l=>l
def PostP (B:Nat) (w:World) (R:Option (List Pt) × Nat) (e:Ending) (w':World):Prop:=
 ∃ v,e= .returned (.tuple #[v,R.2,iI (errOf R.1)])∧w'.ownsRow B 81 2 v (outOf R.1).length (cellsP (outOf R.1))∧Below B w w'
theorem z52 (b:Int):∀ u∈[Value.int .u8 b],u.oneCell'=true:=by
 intro u hu;simp only[List.mem_cons,List.not_mem_nil,or_false] at hu
 rcases hu with rfl;rfl
def LoopP (s:BA) (w0:World) (R:Option (List Pt) × Nat) (vp vt a:Value) (w:World):Prop:=
 ∃ (k:Nat) (ps:List Pt) (t:Bs),k≤s.size∧a= .int .i64 k∧goN (s.data.toList.drop k) k ps t=R∧Two2 w0.heap.size w0 w vp vt ps t∧ps.length≤k * 2∧t.length≤k
theorem z48 (ps:List Pt) (t:Bs):(flush ps t).length≤ps.length+1:=by unfold flush;split <;> simp
theorem z2h {w w':World} {vp vt:Value} {ps:List Pt} {t:Bs} {R:Option (List Pt) × Nat} {n:Nat} {q:Int} (h:Two2 w.heap.size w w' vp vt ps t) (hR:R=(none,n)) (hq:q=n):
  PostP w.heap.size w R (.returned (.tuple #[(),q,iI 1])) w':=by
 subst hR hq;exact⟨_,rfl,World.ownsRow_nil _ _ _ _,h.below⟩
theorem y3h (s:BA) (h:parse s.data.toList=(none,0)) (h0:¬ 0<s.size) (w:World):Cz 95 #[s] w (PostP w.heap.size w (parse s.data.toList)):=by
 rw[h];have e:=z2y s h0;have he:s.toList.isEmpty=true:=by rw[toList_data,e];rfl
 have he2:s.toList=[]:=by rw[toList_data,e]
 clear e h;go_enter Tryz.func95,Tryz.ntmps95;go_wp2
 go_ret3
 exact⟨_,rfl,World.ownsRow_nil _ _ _ _,Below.refl _ _⟩
theorem y1b (s:BA) (h0:0<s.size) (hc:s[0]≠34) (w:World):Cz 95 #[s] w (PostP w.heap.size w (parse s.data.toList)):=by
 have hd:=z0h s 0 h0;rw[drop0] at hd;rw[hd,z38 _ _ hc];have he:=z31 s h0
 have hx:((s[0].toNat:Int) != 34)=true:=by
  have:=z0s (n:=34) hc (by omega);simp only[bne];simpa using this
 clear hd hc;go_enter Tryz.func95,Tryz.ntmps95;go_wp2
 go_ret3
 exact⟨_,rfl,World.ownsRow_nil _ _ _ _,Below.refl _ _⟩
theorem y6r (s:BA) (hs:s.size≤100000) (h0:0<s.size) (hc:s[0]=34) (w:World):Cz 95 #[s] w (PostP w.heap.size w (parse s.data.toList)):=by
 have hd:=z0h s 0 h0;rw[drop0] at hd;obtain⟨R,hR⟩:∃ R,R=parse s.data.toList:=⟨_,rfl⟩;rw[←hR];rw[hd,hc,z2b] at hR;have HR:=zz hR.symm;have he:=z31 s h0
 have hx:((s[0].toNat:Int) != 34)=false:=by
  have:=z08 (n:=34) hc (by omega);simp only[bne];simpa using this
 obtain⟨i0,hi,hz0,hz1,hz2⟩:=info_parts y74;obtain⟨j0,hj,hy0,hy1,hy2⟩:=info_parts info5;clear hd hc hR;go_enter Tryz.func95,Tryz.ntmps95;go_wp2
 go_loopw [5,6,7] (fun vp vt a wr=>LoopP s w R vp vt a wr) (fun _ _ a _=>s.size - (intOf a).toNat)
 case atStart=>exact⟨1,[],[],h0,rfl,HR.out,⟨World.ownsRow_nil _ _ _ _,World.ownsRow_nil _ _ _ _,Below.refl _ _,Nat.le_refl _⟩,by simp,by simp⟩
 case round=>
  obtain⟨k,ps,t,hk,rfl,hg,hT,hp,ht⟩:=hrel;have HG:=zz hg;have HT:=zz hT;clear hg hT;by_cases a:k<s.size
  ·by_cases c34:s[k]=34
   ·have b34:((s[k].toNat:Int) != 34)=false:=by
     have:=z08 (n:=34) c34 (by omega);simp only[bne];simpa using this
    have HX:Hid (R=(some (flush ps t),k+1)):=by
     apply Lib.hid;rw[←HG.out,z0h s k a,c34,z39 (z9d _)]
    have bk:((k:Int)==(s.size:Int))=false:=by simp;omega
    have bk2:(k==s.size)=false:=by simp;omega
    have K20:=zz (z8b _ _ _ _ _ _ _ (by omega) HT.out);clear c34;go_wp2_with (go_at_call 124;((with_reducible refine(K20.out).mono ?_));rintro e w' ⟨v',rfl,HT2⟩)
    go_ret3
    rw[HX.out];exact⟨_,rfl,HT2.parts,HT2.below⟩
   ·have b34:((s[k].toNat:Int) != 34)=true:=by
     have:=z0s (n:=34) c34 (by omega);simp only[bne];simpa using this
    by_cases c36:s[k]=36
    ·have b36:((s[k].toNat:Int)==36)=true:=z08 (n:=36) c36 (by omega)
     have hst:step (s.data.toList.drop k)=stepVar (s.data.toList.drop (k+1)):=by rw[z0h s k a,c36,z4k]
     have K19:∀ w1,Cz 123 #[s,k] w1 fun e w'=>e= .returned (resV k (step (s.data.toList.drop k)))∧Below w1.heap.size w1 w':=fun w1=>by rw[hst];exact y3y s k a (by omega) w1
     have K20:Hid (∀ w1,Below wr.heap.size wr w1→Cz 124 #[u5,u6] w1 (Added w.heap.size w u6 (flush ps t) t)):=zz fun w1 hb=>z8b _ _ _ _ _ _ _ (by omega) (HT.out.beyond hb)
     rcases z2z (s.data.toList.drop k) with ⟨n,hr⟩ | hr | ⟨nm,n,hr⟩ | ⟨b,n,hr⟩
     ·have HX:Hid (R=(none,k+n)):=by apply Lib.hid;rw[←HG.out,z2p hr]
      rw[hr] at K19;obtain⟨q,hq⟩:∃ q,q=k+n:=⟨_,rfl⟩;simp only[resV] at K19;rw[←hq] at K19 HX;have K19:=zz K19;clear hst hr hq c34 c36;go_wp2_with (go_at_call 123;((with_reducible refine(K19.out _).mono ?_));rintro e w1 ⟨rfl,hb1⟩)
      go_ret3
      exact z2h (HT.out.beyond hb1) HX.out rfl
     ·obtain⟨t,ht⟩:=z28 hr
      rw[z0h s k a] at ht;injection ht with ht _
      exact absurd ht c34
     ·obtain⟨n0,nl,_⟩:=z3x hr
      rw[List.length_drop,z0d] at nl;rw[hr] at K19;obtain⟨q,hq⟩:∃ q,q=k+n:=⟨_,rfl⟩
      have HX:Hid (goN (s.data.toList.drop q) q (flush ps t++[(nm,[])]) []=R):=by
       apply Lib.hid;rw[←HG.out,z55 hr,hq,List.drop_drop]
      simp only[resV] at K19;rw[←hq] at K19;have K19:=zz K19;have q1:k<q:=by omega
      have q2:q≤s.size:=by omega
      have fl:=z48 ps t;clear hst hr hq c34 c36
      rcases z13 HT.out.text with ⟨rfl,e0⟩ | ⟨g,cap,rfl,hcap⟩
      ·clear e0
       go_wp2_with (first | (go_at_call 123;((with_reducible refine(K19.out _).mono ?_));rintro e w1 ⟨rfl,hb1⟩) | (go_at_call 124;((with_reducible refine(K20.out _ hb1).mono ?_));rintro e w2 ⟨v',rfl,HT2⟩) | (at_builtin;refine wpList_append_own _ rfl (.tmp 47) (.tmp 50) 35 rfl w.heap.size 81 i0 (.agg #[oS,oS]) 2 32 Tryz.underlying35 hi hz0 hz1 hz2 rfl (by decide) _ _ _ rfl (HT2.parts.alloc _) ⟨w2.heap.size,0,none⟩ 1 1 [nm,oS] rfl rfl (fun j u hu=>z0k w2 81 #[nm,oS] j u hu) (z3u _ _) (by unfold maxLen;omega) (by omega) (HT2.alloc _).size ?_;intro v2 w3 hown' hgrow _))
       go_roundw
       case rel=>exact⟨q,_,_,q2,rfl,HX.out,((HT2.alloc _).part (p:=(nm,[])) hown' hgrow).nilt,by rw[List.length_append];simp;omega,by simp⟩
       case measure=>simp[intOf];omega
      ·obtain⟨m,hm⟩:∃ m,m=t.length:=⟨_,rfl⟩
       rw[←hm] at hcap HT K20 ⊢;have HM:=zz hm;clear hm;go_wp2_with (first | (go_at_call 123;((with_reducible refine(K19.out _).mono ?_));rintro e w1 ⟨rfl,hb1⟩) | (go_at_call 124;((with_reducible refine(K20.out _ hb1).mono ?_));rintro e w2 ⟨v',rfl,HT2⟩) | (at_builtin;refine wpList_append_own _ rfl (.tmp 47) (.tmp 50) 35 rfl w.heap.size 81 i0 (.agg #[oS,oS]) 2 32 Tryz.underlying35 hi hz0 hz1 hz2 rfl (by decide) _ _ _ rfl (HT2.parts.alloc _) ⟨w2.heap.size,0,none⟩ 1 1 [nm,oS] rfl rfl (fun j u hu=>z0k w2 81 #[nm,oS] j u hu) (z3u _ _) (by unfold maxLen;omega) (by omega) (HT2.alloc _).size ?_;intro v2 w3 hown' hgrow _))
       go_roundw
       case rel=>exact⟨q,_,_,q2,rfl,HX.out,((HT2.alloc _).part (p:=(nm,[])) hown' hgrow).cut HM.out,by rw[List.length_append];simp;omega,by simp⟩
       case measure=>simp[intOf];omega
     ·exfalso
      rcases z7j hr with ⟨t,ht,hp,_⟩ | ⟨c,t,ht,_⟩ | ⟨c,d,t,ht,_⟩ <;> (rw[z0h s k a,c36] at ht;injection ht with ht _;revert ht)
      ·intro ht;rw[←ht] at hp;revert hp;decide
      ·decide
      ·decide
    ·have b36:((s[k].toNat:Int)==36)=false:=z0s (n:=36) c36 (by omega)
     have K21:=fun w1=>y14 s k a (by omega) c34 c36 w1
     rcases z2z (s.data.toList.drop k) with ⟨n,hr⟩ | hr | ⟨nm,n,hr⟩ | ⟨b,n,hr⟩
     ·have HX:Hid (R=(none,k+n)):=by apply Lib.hid;rw[←HG.out,z2p hr]
      rw[hr] at K21;obtain⟨q,hq⟩:∃ q,q=k+n:=⟨_,rfl⟩;simp only[resS] at K21;rw[←hq] at K21 HX;have K21:=zz K21;clear hr hq c34 c36;go_wp2_with (go_at_call 125;((with_reducible refine(K21.out _).mono ?_));rintro e w1 ⟨rfl,rfl⟩)
      go_ret3
      exact z2h HT.out HX.out rfl
     ·obtain⟨t,ht⟩:=z28 hr
      rw[z0h s k a] at ht;injection ht with ht _
      exact absurd ht c34
     ·obtain⟨t,ht,_⟩:=z3t hr
      rw[z0h s k a] at ht;injection ht with ht _
      exact absurd ht c36
     ·obtain⟨n0,nl,_⟩:=z23 hr
      rw[List.length_drop,z0d] at nl;rw[hr] at K21;obtain⟨q,hq⟩:∃ q,q=k+n:=⟨_,rfl⟩
      have HX:Hid (goN (s.data.toList.drop q) q ps (t++[b])=R):=by
       apply Lib.hid;rw[←HG.out,z3n hr,hq,List.drop_drop]
      simp only[resS] at K21;rw[←hq] at K21;have K21:=zz K21;have q1:k<q:=by omega
      have q2:q≤s.size:=by omega
      clear hr hq c34 c36;go_wp2_with (first | (go_at_call 125;((with_reducible refine(K21.out _).mono ?_));rintro e w1 ⟨rfl,rfl⟩) | (at_builtin;refine wpList_append_own _ rfl (.tmp 65) (.tmp 67) 86 rfl w.heap.size 5 j0 (.int .u8 0) 1 1 Tryz.underlying86 hj hy0 hy1 hy2 rfl (by decide) _ _ _ rfl (HT.out.text.alloc _) ⟨wr.heap.size,0,none⟩ 1 1 [.int .u8 b.toNat] rfl rfl (fun j u hu=>z0k wr 5 #[.int .u8 b.toNat] j u hu) (z52 _) (by unfold maxLen;omega) (by omega) (HT.out.alloc _).size ?_;intro v2 w3 hown' hgrow _))
      go_roundw
      case rel=>exact⟨q,_,_,q2,rfl,HX.out,(HT.out.alloc _).byte hown' hgrow,by omega,by rw[List.length_append];simp;omega⟩
      case measure=>simp[intOf];omega
  ·have HX:Hid (R=(none,k)):=by
    apply Lib.hid;rw[←HG.out,z07 s k a,z2p (k:=0) rfl];rfl
   obtain rfl:k=s.size:=by omega
   go_wp2
   go_ret3
   exact z2h HT.out HX.out rfl
theorem y7y (s:BA) (hs:s.size≤100000) (w:World):Cz 95 #[s] w (PostP w.heap.size w (parse s.data.toList)):=by
 by_cases h0:0<s.size
 ·by_cases hc:s[0]=34
  ·exact y6r s hs h0 hc w
  ·exact y1b s h0 hc w
 ·refine y3h s ?_ h0 w
  rw[z2y s h0];rfl
end Go.Proofs.YtngfihoempcplaaGreatDoor
