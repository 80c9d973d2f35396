import Derived.Test.YtngfihoempcplaaGreatDoorCf
import Derived.Test.YtngfihoempcplaaGreatDoorParseL
namespace Go.Proofs.YtngfihoempcplaaGreatDoor
open Go Go.RowKit
set_option maxRecDepth 100000
set_option maxHeartbeats 4000000
def LoopQ (s:BA) (w0:World) (R:Option (List Pt) × Nat) (vp tx a:Value) (w:World):Prop:=
 ∃ (k:Nat) (ps:List Pt) (t:Bs) (T:BA),k≤s.size∧a= .int .i64 k∧tx= .string T∧T.data.toList=t∧goN (s.data.toList.drop k) k ps t=R∧Two2 w0.heap.size w0 w vp (.slice none 0 0) ps []∧ps.length≤k * 2∧t.length≤k
theorem y5b (w:World) (x:Int) (c:UInt8) (e:(c.toNat:Int)=x):
  (convert 86 9 (.slice (some ⟨w.heap.size,0,none⟩) 1 1)).run Tryz.prog (w.alloc (.cells #[.int .u8 x] 5))= .ok (.string ⟨#[c]⟩) (w.alloc (.cells #[.int .u8 x] 5)):=by
 refine run_convert_bytes_back (P:=Tryz.prog) (w.alloc (.cells #[.int .u8 x] 5)) 86 9 5 ⟨w.heap.size,0,none⟩ 1 [c] Tryz.underlying86 Tryz.underlying5 Tryz.underlying9 ?_;intro j hj;obtain rfl:j=0:=by simpa using hj
 show _=some (Value.int .u8 (c.toNat:Int));rw[e];exact cell_one_new _ _ _ 0 _ rfl
theorem y09 (s:BA) (n:Int) (hn:(n != 34)=true) (K:∀ w,Cz 106 #[s,oZ] w fun e w'=>e= .returned (.int .u8 n)∧w=w') (hR:parse s.data.toList=(none,0)) (w:World):
  Cz 66 #[s] w (PostP w.heap.size w (parse s.data.toList)):=by
 rw[hR];have K:=zz K;clear hR;go_enter Tryz.func66,Tryz.ntmps66;go_wp2_with (go_at_call 106;((with_reducible refine(K.out _).mono ?_));rintro e w' ⟨rfl,rfl⟩)
 go_ret3
 exact⟨_,rfl,World.ownsRow_nil _ _ _ _,Below.refl _ _⟩
theorem z6j (T U:BA) (t u:Bs) (h:T.data.toList=t) (g:U.data.toList=u):(T++U).data.toList=t++u:=by
 rw[ByteArray.data_append,Array.toList_append,h,g]
theorem y3u (s:BA) (hs:s.size≤4000) (h0:0<s.size) (hc:s[0]=34) (w:World):Cz 66 #[s] w (PostP w.heap.size w (parse s.data.toList)):=by
 have hd:=z0h s 0 h0;rw[drop0] at hd;obtain⟨R,hR⟩:∃ R,R=parse s.data.toList:=⟨_,rfl⟩;rw[←hR];rw[hd,hc,z2b] at hR;have HR:=zz hR.symm;have K24:Hid (∀ w,Cz 106 #[s,oZ] w fun e w'=>e= .returned (.int .u8 34)∧w=w'):=zz fun w=>at_is s 0 h0 34 (by rw[hc];rfl) w
 obtain⟨i0,hi,hz0,hz1,hz2⟩:=info_parts y74;clear hd hc hR;go_enter Tryz.func66,Tryz.ntmps66;go_wp2_with (go_at_call 106;((with_reducible refine(K24.out _).mono ?_));rintro e w' ⟨rfl,rfl⟩)
 go_loopw [5,6,7] (fun vp tx a wr=>LoopQ s w R vp tx a wr) (fun _ _ a _=>s.size - (intOf a).toNat)
 case atStart=>exact⟨1,[],[],⟨#[]⟩,h0,rfl,rfl,rfl,HR.out,⟨World.ownsRow_nil _ _ _ _,World.ownsRow_nil _ _ _ _,Below.refl _ _,Nat.le_refl _⟩,by simp,by simp⟩
 case round=>
  obtain⟨k,ps,t,T,hk,rfl,rfl,hT0,hg,hT,hp,ht⟩:=hrel;have HG:=zz hg;have HT:=zz hT;have HT0:=zz hT0
  have hTs:T.size≤4000:=by
   have e:=z0d T;rw[hT0] at e;omega
  clear hg hT hT0;by_cases a:k<s.size
  ·obtain⟨c,hcc⟩:∃ c:Int,c=(s[k].toNat:Int):=⟨_,rfl⟩
   by_cases c34:s[k]=34
   ·have b34:((s[k].toNat:Int)==34)=true:=z08 (n:=34) c34 (by omega)
    have HX:Hid (R=(some (flush ps t),k+1)):=by
     apply Lib.hid;rw[←HG.out,z0h s k a,c34,z39 (z9d _)]
    clear c34 hcc;by_cases e0:t=[]
    ·have hz:T.toList=[]:=by rw[toList_data,HT0.out,e0]
     have hz2':T.toList.isEmpty=true:=by rw[hz];rfl
     have HF:Hid (flush ps t=ps):=by apply Lib.hid;unfold flush;rw[if_pos e0]
     clear e0;go_wp2
     go_ret3
     rw[HX.out];exact⟨_,rfl,by show World.ownsRow _ _ _ _ _ (flush ps t).length (cellsP (flush ps t));rw[HF.out];exact HT.out.parts,HT.out.below⟩
    ·have hz:¬ T.toList=[]:=by rw[toList_data,HT0.out];exact e0
     have hz2':T.toList.isEmpty=false:=by simpa using hz
     have HF:Hid (flush ps t=ps++[([],t)]):=by apply Lib.hid;unfold flush;rw[if_neg e0]
     clear e0;have hTe:Hid (T=⟨t.toArray⟩):=by apply Lib.hid;apply ByteArray.ext;rw[←HT0.out]
     go_wp2_with (at_builtin;refine wpList_append_own _ rfl (.tmp 34) (.tmp 37) 35 rfl w.heap.size 81 i0 (.agg #[oS,oS]) 2 32 Tryz.underlying35 hi hz0 hz1 hz2 rfl (by decide) _ _ _ rfl (HT.out.parts.alloc _) ⟨wr.heap.size,0,none⟩ 1 1 [oS,T] rfl rfl (fun j u hu=>z0k wr 81 #[oS,T] j u hu) (z3u _ _) (by unfold maxLen;omega) (by omega) (HT.out.alloc _).size ?_;intro v2 w3 hown' hgrow _)
     go_ret3
     rw[HX.out];rw[hTe.out] at hown';have H3:=(HT.out.alloc _).part (p:=([],t)) hown' hgrow;exact⟨_,rfl,by show World.ownsRow _ _ _ _ _ (flush ps t).length (cellsP (flush ps t));rw[HF.out];exact H3.parts,H3.below⟩
   ·have b34:((s[k].toNat:Int)==34)=false:=z0s (n:=34) c34 (by omega)
    by_cases c36:s[k]=36
    ·have b36:((s[k].toNat:Int)==36)=true:=z08 (n:=36) c36 (by omega)
     have hst:step (s.data.toList.drop k)=stepVar (s.data.toList.drop (k+1)):=by rw[z0h s k a,c36,z4k]
     have K25:∀ w1,Cz 107 #[s,iI ((k:Int)+1)] w1 fun e w'=>e= .returned (resF k (step (s.data.toList.drop k)))∧w1=w':=fun w1=>by rw[hst];exact y2m s k (k+1) rfl (by omega) w1
     have fl:=z48 ps t
     rcases z2z (s.data.toList.drop k) with ⟨n,hr⟩ | hr | ⟨nm,n,hr⟩ | ⟨b,n,hr⟩
     ·have HX:Hid (R=(none,k+n)):=by apply Lib.hid;rw[←HG.out,z2p hr]
      rw[hr] at K25;obtain⟨q,hq⟩:∃ q,q=k+n:=⟨_,rfl⟩;simp only[resF] at K25;rw[←hq] at K25 HX;have K25:=zz K25;clear hst hr hq c34 c36 hcc;by_cases e0:t=[]
      ·have hz:T.toList=[]:=by rw[toList_data,HT0.out,e0]
       have hz2':T.toList.isEmpty=true:=by rw[hz];rfl
       clear e0;go_wp2_with (go_at_call 107;((with_reducible refine(K25.out _).mono ?_));rintro e w1 ⟨rfl,rfl⟩)
       go_ret3
       exact z2h HT.out HX.out rfl
      ·have hz:¬ T.toList=[]:=by rw[toList_data,HT0.out];exact e0
       have hz2':T.toList.isEmpty=false:=by simpa using hz
       have hTe:T=⟨t.toArray⟩:=by apply ByteArray.ext;rw[←HT0.out]
       have hF3:∀ v2 w3,World.ownsRow w3 w.heap.size 81 2 v2 (ps.length+1) (cellsP ps++[.string ⟨#[]⟩,.string T])→(wr.alloc (.cells #[oS,T] 81)).grownBy w3 u5.ownBlock→Two2 w.heap.size w w3 v2 (.slice none 0 0) (ps++[([],t)]) []:=by
        intro v2 w3 ho hg;rw[hTe] at ho;exact(HT.out.alloc _).part (p:=([],t)) ho hg
       clear e0 hTe;go_wp2_with (first | (go_at_call 107;((with_reducible refine(K25.out _).mono ?_));rintro e w1 ⟨rfl,rfl⟩) | (at_builtin;refine wpList_append_own _ rfl (.tmp 34) (.tmp 37) 35 rfl w.heap.size 81 i0 (.agg #[oS,oS]) 2 32 Tryz.underlying35 hi hz0 hz1 hz2 rfl (by decide) _ _ _ rfl (HT.out.parts.alloc _) ⟨wr.heap.size,0,none⟩ 1 1 [oS,T] rfl rfl (fun j u hu=>z0k wr 81 #[oS,T] j u hu) (z3u _ _) (by unfold maxLen;omega) (by omega) (HT.out.alloc _).size ?_;intro v2 w3 hown' hgrow _;have H3:=hF3 _ _ hown' hgrow;clear hown' hgrow))
       go_ret3
       exact z2h H3 HX.out rfl
     ·obtain⟨t,ht⟩:=z28 hr
      rw[z0h s k a] at ht;injection ht with ht _
      exact absurd ht c34
     ·obtain⟨n0,nl,_⟩:=z3x hr
      rw[List.length_drop,z0d] at nl;rw[hr] at K25;obtain⟨d,rfl⟩:∃ d,n=d+1:=⟨n - 1,by omega⟩
      have HX:Hid (goN (s.data.toList.drop (k+1+d)) (k+1+d) (flush ps t++[(nm,[])]) []=R):=by
       apply Lib.hid;rw[←HG.out,z55 hr,List.drop_drop,show k+1+d=k+(d+1) by omega]
      have K25:Hid (∀ w1,Cz 107 #[s,iI ((k:Int)+1)] w1 fun e w'=>e= .returned (.tuple #[nm,d,oZ])∧w1=w'):=by
       apply Lib.hid;simp only[resF] at K25;rw[show ((d+1:Nat):Int) - 1=d by omega] at K25;exact K25
      clear hst hr c34 c36 hcc;by_cases e0:t=[]
      ·have hz:T.toList=[]:=by rw[toList_data,HT0.out,e0]
       have hz2':T.toList.isEmpty=true:=by rw[hz];rfl
       have HF:Hid (flush ps t=ps):=by apply Lib.hid;unfold flush;rw[if_pos e0]
       clear e0;go_wp2_with (first | (go_at_call 107;((with_reducible refine(K25.out _).mono ?_));rintro e w1 ⟨rfl,rfl⟩) | (at_builtin;refine wpList_append_own _ rfl (.tmp 57) (.tmp 60) 35 rfl w.heap.size 81 i0 (.agg #[oS,oS]) 2 32 Tryz.underlying35 hi hz0 hz1 hz2 rfl (by decide) _ _ _ rfl (HT.out.parts.alloc _) ⟨wr.heap.size,0,none⟩ 1 1 [nm,oS] rfl rfl (fun j u hu=>z0k wr 81 #[nm,oS] j u hu) (z3u _ _) (by unfold maxLen;omega) (by omega) (HT.out.alloc _).size ?_;intro v4 w4 hown4 hgrow4 _))
       go_roundw
       case rel=>exact⟨k+1+d,ps++[(nm,[])],[],⟨#[]⟩,by omega,by go_num,rfl,rfl,by rw[←HX.out,HF.out],(HT.out.alloc _).part (p:=(nm,[])) hown4 hgrow4,by rw[List.length_append];simp;omega,by simp⟩
       case measure=>simp[intOf];omega
      ·have hz:¬ T.toList=[]:=by rw[toList_data,HT0.out];exact e0
       have hz2':T.toList.isEmpty=false:=by simpa using hz
       have hTe:T=⟨t.toArray⟩:=by apply ByteArray.ext;rw[←HT0.out]
       have HF:Hid (flush ps t=ps++[([],t)]):=by apply Lib.hid;unfold flush;rw[if_neg e0]
       have hF3:∀ v2 w3,World.ownsRow w3 w.heap.size 81 2 v2 (ps.length+1) (cellsP ps++[.string ⟨#[]⟩,.string T])→(wr.alloc (.cells #[oS,T] 81)).grownBy w3 u5.ownBlock→Two2 w.heap.size w w3 v2 (.slice none 0 0) (ps++[([],t)]) []:=by
        intro v2 w3 ho hg;rw[hTe] at ho;exact(HT.out.alloc _).part (p:=([],t)) ho hg
       have hl3:(ps++[(([]:Bs),t)]).length≤10000:=by rw[List.length_append];simp;omega
       clear e0 hTe;go_wp2_with (first | (go_at_call 107;((with_reducible refine(K25.out _).mono ?_));rintro e w1 ⟨rfl,rfl⟩) | (at_builtin;refine wpList_append_own _ rfl (.tmp 34) (.tmp 37) 35 rfl w.heap.size 81 i0 (.agg #[oS,oS]) 2 32 Tryz.underlying35 hi hz0 hz1 hz2 rfl (by decide) _ _ _ rfl (HT.out.parts.alloc _) ⟨wr.heap.size,0,none⟩ 1 1 [oS,T] rfl rfl (fun j u hu=>z0k wr 81 #[oS,T] j u hu) (z3u _ _) (by unfold maxLen;omega) (by omega) (HT.out.alloc _).size ?_;intro v2 w3 hown' hgrow _;have H3:=hF3 _ _ hown' hgrow;clear hown' hgrow) | (at_builtin;refine wpList_append_own _ rfl (.tmp 57) (.tmp 60) 35 rfl w.heap.size 81 i0 (.agg #[oS,oS]) 2 32 Tryz.underlying35 hi hz0 hz1 hz2 rfl (by decide) _ _ _ rfl (H3.parts.alloc _) ⟨w3.heap.size,0,none⟩ 1 1 [nm,oS] rfl rfl (fun j u hu=>z0k w3 81 #[nm,oS] j u hu) (z3u _ _) (by unfold maxLen;omega) (by omega) (H3.alloc _).size ?_;intro v4 w4 hown4 hgrow4 _))
       go_roundw
       case rel=>exact⟨k+1+d,ps++[([],t)]++[(nm,[])],[],⟨#[]⟩,by omega,by go_num,rfl,rfl,by rw[←HX.out,HF.out],(H3.alloc _).part (p:=(nm,[])) hown4 hgrow4,by rw[List.length_append,List.length_append];simp;omega,by simp⟩
       case measure=>simp[intOf];omega
     ·exfalso
      rcases z7j hr with ⟨t,ht,hp,_⟩ | ⟨c,t,ht,_⟩ | ⟨c,d,t,ht,_⟩ <;> (rw[z0h s k a,c36] at ht;injection ht with ht _;revert ht)
      ·intro ht;rw[←ht] at hp;revert hp;decide
      ·decide
      ·decide
    ·have b36:((s[k].toNat:Int)==36)=false:=z0s (n:=36) c36 (by omega)
     by_cases c92:s[k]=92
     ·have b92:((s[k].toNat:Int)==92)=true:=z08 (n:=92) c92 (by omega)
      have hst:step (s.data.toList.drop k)=stepEsc (s.data.toList.drop (k+1)):=by rw[z0h s k a,c92,z6i]
      have K26:∀ w1,Cz 108 #[s,iI ((k:Int)+1)] w1 fun e w'=>e= .returned (resE k (step (s.data.toList.drop k)))∧Below w1.heap.size w1 w':=fun w1=>by rw[hst];exact y6f s k (k+1) rfl (by omega) (by omega) w1
      rcases z2z (s.data.toList.drop k) with ⟨n,hr⟩ | hr | ⟨nm,n,hr⟩ | ⟨b,n,hr⟩
      ·have HX:Hid (R=(none,k+n)):=by apply Lib.hid;rw[←HG.out,z2p hr]
       rw[hr] at K26;obtain⟨q,hq⟩:∃ q,q=k+n:=⟨_,rfl⟩;simp only[resE] at K26;rw[←hq] at K26 HX;have K26:=zz K26;clear hst hr hq c34 c36 c92 hcc;go_wp2_with (go_at_call 108;((with_reducible refine(K26.out _).mono ?_));rintro e w1 ⟨rfl,hb1⟩)
       go_ret3
       exact z2h (HT.out.beyond hb1) HX.out rfl
      ·obtain⟨t,ht⟩:=z28 hr
       rw[z0h s k a] at ht;injection ht with ht _
       exact absurd ht c34
      ·obtain⟨t,ht,_⟩:=z3t hr
       rw[z0h s k a] at ht;injection ht with ht _
       exact absurd ht c36
      ·obtain⟨n0,nl,_⟩:=z23 hr
       rw[List.length_drop,z0d] at nl;rw[hr] at K26;obtain⟨d,rfl⟩:∃ d,n=d+1:=⟨n - 1,by omega⟩
       have HX:Hid (goN (s.data.toList.drop (k+1+d)) (k+1+d) ps (t++[b])=R):=by
        apply Lib.hid;rw[←HG.out,z3n hr,List.drop_drop,show k+1+d=k+(d+1) by omega]
       have K26:Hid (∀ w1,Cz 108 #[s,iI ((k:Int)+1)] w1 fun e w'=>e= .returned (.tuple #[.int .u8 b.toNat,d,oZ])∧Below w1.heap.size w1 w'):=by
        apply Lib.hid;simp only[resE] at K26;rw[show ((d+1:Nat):Int) - 1=d by omega] at K26;exact K26
       have hone:=fun W:World=>y5b W (b.toNat:Int) b rfl
       clear hst hr c34 c36 c92 hcc;go_wp2_with (go_at_call 108;((with_reducible refine(K26.out _).mono ?_));rintro e w1 ⟨rfl,hb1⟩)
       go_roundw
       case rel=>exact⟨k+1+d,ps,t++[b],_,by omega,by go_num,rfl,z6j T _ t [b] HT0.out rfl,HX.out,(HT.out.beyond hb1).alloc _,by omega,by rw[List.length_append];simp;omega⟩
       case measure=>simp[intOf];omega
     ·have b92:((s[k].toNat:Int)==92)=false:=z0s (n:=92) c92 (by omega)
      by_cases hpl:plainB s[k]=true
      ·have hr:step (s.data.toList.drop k)= .byte s[k] 1:=by rw[z0h s k a,z5v _ _ hpl]
       have HX:Hid (goN (s.data.toList.drop (k+1)) (k+1) ps (t++[s[k]])=R):=by
        apply Lib.hid;rw[←HG.out,z3n hr,List.drop_drop]
       have hx:32≤(s[k].toNat:Int)∧(s[k].toNat:Int)≤126:=by
        have:=hpl;unfold plainB at this;simp at this;omega
       obtain⟨x1,x2⟩:=hx;have hone:=fun W:World=>y5b W (s[k].toNat:Int) s[k] rfl
       clear hr hpl c34 c36 c92 hcc;go_wp2
       go_roundw
       case rel=>exact⟨k+1,ps,t++[s[k]],_,by omega,by go_num,rfl,z6j T _ t [s[k]] HT0.out rfl,HX.out,HT.out.alloc _,by omega,by rw[List.length_append];simp;omega⟩
       case measure=>simp[intOf];omega
      ·have hr:step (s.data.toList.drop k)= .bad 0:=by rw[z0h s k a];unfold step;simp[c34,c36,c92,hpl]
       have HX:Hid (R=(none,k)):=by apply Lib.hid;rw[←HG.out,z2p hr];rfl
       have hx:(s[k].toNat:Int)<32∨(32≤(s[k].toNat:Int)∧126<(s[k].toNat:Int)):=by
        have h3:¬ (s[k].toNat:Int)=34:=by intro e;exact c34 (by rw[←UInt8.toNat_inj];show s[k].toNat=34;omega)
        have h6:¬ (s[k].toNat:Int)=36:=by intro e;exact c36 (by rw[←UInt8.toNat_inj];show s[k].toNat=36;omega)
        have h9:¬ (s[k].toNat:Int)=92:=by intro e;exact c92 (by rw[←UInt8.toNat_inj];show s[k].toNat=92;omega)
        have:=hpl;unfold plainB at this;simp at this;omega
       clear hr hpl c34 c36 c92 hcc
       rcases hx with hx | ⟨hx,hx2⟩
       all_goals
        go_wp2
        go_ret3
        exact z2h HT.out HX.out rfl
  ·have HX:Hid (R=(none,k)):=by
    apply Lib.hid;rw[←HG.out,z07 s k a,z2p (k:=0) rfl];rfl
   obtain rfl:k=s.size:=by omega
   go_wp2
   go_ret3
   exact z2h HT.out HX.out rfl
theorem y5m (s:BA) (hs:s.size≤4000) (w:World):Cz 66 #[s] w (PostP w.heap.size w (parse s.data.toList)):=by
 by_cases h0:0<s.size
 ·by_cases hc:s[0]=34
  ·exact y3u s hs h0 hc w
  ·have hx:((s[0].toNat:Int) != 34)=true:=by
    have:=z0s (n:=34) hc (by omega);simp only[bne];simpa using this
   refine y09 s _ hx (fun w=>at_is s 0 h0 _ rfl w) ?_ w;have hd:=z0h s 0 h0;rw[drop0] at hd;rw[hd,z38 _ _ hc]
 ·refine y09 s 0 (by decide) (fun w=>at_ge s 0 h0 w) ?_ w
  rw[z2y s h0];rfl
end Go.Proofs.YtngfihoempcplaaGreatDoor
