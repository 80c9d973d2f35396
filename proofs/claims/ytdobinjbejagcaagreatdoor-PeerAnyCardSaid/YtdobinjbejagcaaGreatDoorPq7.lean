import Derived.Deep.RegionHeld3
import Derived.Deep.DeepMust
import Derived.Test.YtdobinjbejagcaaGreatDoorPq6
namespace Go.Proofs.YtdobinjbejagcaaGreatDoor
open Go Go.RowKit
set_option maxRecDepth 100000
set_option maxHeartbeats 20000000
def fxP (ns:List Bs) (gs:Gs) (y:Pv):Pv:=(linkX ns gs y.1,y.2)
theorem link3 {ns:List Bs} {gs:Gs} {e:EdP} (h:e.kind=3):linkE ns gs e=e:=if_pos h
theorem linkN {ns:List Bs} {gs:Gs} {e:EdP} {m:Nat} {y:Bs × Nat} (h:¬ e.kind=3) (ht:e.to=(m:Nat)) (hy:gs[m]?=some y):linkE ns gs e=putTo e (idxP ns y.1):=by
 unfold linkE putTo;rw[if_neg h,ht,Int.toNat_natCast,hy];rfl
theorem upd_names {ns:List Bs} {gs:Gs} (i:Nat) (q:List Pv):(updP (fxP ns gs) i q).map (·.1.name)=q.map (·.1.name):=by
 unfold updP;rw[List.map_append,List.map_map];have e:(fun x:Pv=>x.1.name) ∘ fxP ns gs=fun x:Pv=>x.1.name:=by funext y;rfl
 rw[e,←List.map_append,List.take_append_drop]
theorem set_names {q:List Pv} {i:Nat} {x:Pv} {y:Pv} (h:q[i]?=some x) (hn:y.1.name=x.1.name):(q.set i y).map (·.1.name)=q.map (·.1.name):=by
 rw[List.map_set];have hi:=(List.getElem?_eq_some_iff.1 h).1;have:(q.map (·.1.name))[i]?=some y.1.name:=by rw[List.getElem?_map,h,hn];rfl
 obtain⟨h1,h2⟩:=List.getElem?_eq_some_iff.1 this;rw[←h2,List.set_getElem_self]
theorem rdp_names {b:Nat} {w:World} {S:ByteArray} {A:Option Addr} {n c:Nat} {l:List Tok} {k:Nat} {sf:Sf} {gs:Gs} {qq:Nat} {vN vG:Value} (h:DocP b w S A n c l k 0 sf gs qq vN vG) {m:Nat} {y:Bs × Nat} (hy:gs[m]?=some y):∃ gN cN gG cG,vN= .slice (some ⟨gN,0,none⟩) gs.length cN∧w.cell? ⟨gN,m,none⟩=some (.string ⟨y.1.toArray⟩)∧vG= .slice (some ⟨gG,0,none⟩) gs.length cG∧w.cell? ⟨gG,m,none⟩=some (.int .i64 (y.2:Nat))∧b<gG:=by
 obtain⟨ns,ats,r1,r2, -,e2, -⟩:=h.own.ex;obtain⟨rfl,rfl⟩:=e2 rfl;have hm:=(List.getElem?_eq_some_iff.1 hy).1;obtain⟨gN,cN,e3, -, -⟩:=r1.form (by rw[List.length_map];omega);obtain⟨gG,cG,e4, -, -⟩:=r2.form (by rw[List.length_map];omega);have c1:=r1.cells (g:=gN) (by rw[e3];rfl) m (.string ⟨y.1.toArray⟩) (by unfold strsP;rw[List.getElem?_map,List.getElem?_map,hy];rfl);have c2:=r2.cells (g:=gG) (by rw[e4];rfl) m (.int .i64 (y.2:Nat)) (by unfold atsP;rw[List.getElem?_map,List.getElem?_map,hy];rfl);rw[Addr.add_lit,Nat.zero_add] at c1 c2;rw[List.length_map] at e3 e4;exact⟨gN,cN,gG,cG,e3,c1,e4,c2,(r2.lt gG (by rw[e4];rfl)).1⟩
theorem xs_name {B:Nat} {w:World} {q:List Pv} {g ql cx:Nat} (h:OwnXs B w (.slice (some ⟨g,0,none⟩) ql cx) q) {s:Nat} {y:Bs} (hy:(q.map (·.1.name))[s]?=some y):w.cell? ⟨g,s * 3,none⟩=some (.string ⟨y.toArray⟩):=by
 rw[List.getElem?_map,Option.map_eq_some_iff] at hy;obtain⟨x,hx,rfl⟩:=hy;have:=h.row.cells (g:=g) rfl _ _ (flat_atE (cf:=cellX) (s:=3) (fun _=>rfl) q s x hx 0 _ rfl);rw[Addr.add_lit,Nat.zero_add] at this;exact this
theorem xs_kids {B:Nat} {w:World} {q:List Pv} {g ql cx:Nat} (h:OwnXs B w (.slice (some ⟨g,0,none⟩) ql cx) q) {s:Nat} {x:Pv} (hx:q[s]?=some x):w.cell? ⟨g,s * 3+2,none⟩=some x.2:=by
 have:=h.row.cells (g:=g) rfl _ _ (flat_atE (cf:=cellX) (s:=3) (fun _=>rfl) q s x hx 2 _ rfl);rw[Addr.add_lit,Nat.zero_add] at this;exact this
theorem xs_edge {B:Nat} {w:World} {v:Value} {q:List Pv} (h:OwnXs B w v q) {s j g el cp:Nat} {x:PlP} {e:EdP} (hx:q[s]?=some (x,.slice (some ⟨g,0,none⟩) el cp)) (he:x.edges[j]?=some e):∀ m u,(cellE e)[m]?=some u→w.cell? ⟨g,j * 5+m,none⟩=some u:=fun m u hu=>by
 have:=(h.kids _ (List.mem_of_getElem? hx)).cells (g:=g) rfl _ _ (flat_atE (cf:=cellE) (s:=5) (fun _=>rfl) x.edges j e he m u hu);rw[Addr.add_lit,Nat.zero_add] at this;exact this
theorem PaP.setTo2 {w W:World} {b pb:Nat} {S:ByteArray} {A:Option Addr} {n c:Nat} {l:List Tok} {k o:Nat} {sf:Sf} {gs:Gs} {qq:Nat} {vN vG:Value} {cap:Int} {vX:Value} {X0:List Pv} {i j g cp el:Nat} {nm:Bs} {ec:Bool} {es:List EdP} {e:EdP} {z:Pv} (hz:X0[i]?=some z) (h:PaP w b pb W S A n c l k o sf gs qq vN vG cap vX (X0.set i (⟨nm,ec,es⟩,.slice (some ⟨g,0,none⟩) el cp))) (hel:el=es.length) (he:es[j]?=some e) (t:Int):PaP w b pb (W.setCell ⟨g,j * 5+4,none⟩ (.int .i64 t)) S A n c l k o sf gs qq vN vG cap vX (X0.set i (⟨nm,ec,es.set j (putTo e t)⟩,.slice (some ⟨g,0,none⟩) el cp)):=by
 subst hel;have:=h.setTo (i:=i) (x:=⟨nm,ec,es⟩) (List.getElem?_set_self (List.getElem?_eq_some_iff.1 hz).1) he t;rw[List.set_set] at this;exact this
theorem plink_any (S:ByteArray) (A:Option Addr) (n c:Nat) (l:List Tok):LinkC S A n c l:=Lib.hid fun w0 W b pb k sf gs qq vN vG cap vX q h hok hgo hgl hq he=>by
 obtain⟨xs,hxs⟩:∃ xs,xs=q.map (·.1):=⟨_,rfl⟩;rw[←hxs] at hok hgo ⊢;obtain⟨ns,hns⟩:∃ ns,ns=xs.map (·.name):=⟨_,rfl⟩;have HNQ:Hid (q.map (·.1.name)=ns):=Lib.hid (by rw[hns,hxs,List.map_map];rfl);obtain⟨OUT,hOUT⟩:∃ OUT,OUT=finL l cap xs sf gs:=⟨_,rfl⟩;rw[←hOUT]
 have HOUT:Hid ((∀ y,softsP l none (sf++linkS ns gs)=some y→OUT=(none,y.1,y.2))∧(softsP l none (sf++linkS ns gs)=none→OUT=(some (linkP gs ⟨cap,xs⟩),0,0))):=Lib.hid (by
  rw[hOUT,hns];unfold finL;exact⟨fun y hy=>by rw[hy],fun hy=>by rw[hy]⟩)
 obtain⟨ql,hql⟩:∃ ql,ql=q.length:=⟨_,rfl⟩;obtain⟨Ax,cx,rfl⟩:=h.len;rw[←hql] at h hq ⊢;have HQL:=Lib.hid hql;have HXS:=Lib.hid hxs;have HNS:=Lib.hid hns;have HOK:=Lib.hid hok;have HGO:=Lib.hid hgo;have HGL:=Lib.hid hgl;have HEE:=Lib.hid he;have HXL:Hid (xs.length=ql):=Lib.hid (by rw[hxs,List.length_map,hql]);have hbl:=h.rd.lt;have HLT:Hid (∀ g,HasX (.slice Ax ql cx) q g→b<g∧g<W.heap.size):=Lib.hid fun g hg=>by have:=h.own.lt g hg;have:=h.hp;omega
 obtain⟨W2,hW2⟩:∃ W2,W2=(W.alloc (.cells #[.int .i64 cap,.slice Ax ql cx] 24)).alloc (.cells #[.int .i64 0,.slice none 0 0] 24):=⟨_,rfl⟩;obtain⟨pl,hpl⟩:∃ pl,pl=W.heap.size:=⟨_,rfl⟩;obtain⟨rl,hrl⟩:∃ rl,rl=W.heap.size+1:=⟨_,rfl⟩;have hsz:(W.alloc (.cells #[.int .i64 cap,.slice Ax ql cx] 24)).heap.size=W.heap.size+1:=by simp
 have HP0:Hid (PaP w0 b pb W2 S A n c l k 0 sf gs qq vN vG cap (.slice Ax ql cx) q):=Lib.hid (by rw[hW2];exact(h.alloc _).alloc _);have HB0:Hid (BoxP W2 pl [.int .i64 cap,.slice Ax ql cx]):=Lib.hid (by rw[hW2,hpl];exact(BoxP.new W 24 [.int .i64 cap,.slice Ax ql cx]).low (by simp) (one_boxP _ _));have HR0:Hid (BoxP W2 rl zeroPe):=Lib.hid (by rw[hW2,hrl,←hsz];exact BoxP.new _ 24 zeroPe);have hbp:b<pl:=by omega
 have hpr:pl<rl:=by omega
 rw[←hpl] at HLT;have HBP:=Lib.hid (And.intro hbp hpr);have hrl0:w0.heap.size≤rl:=by have:=h.low.size;omega
 have HRL:=Lib.hid hrl0;clear h hok hgo hgl he hxs hns hOUT hql hbl hsz hrl0;go_enter Tryz.func39,Tryz.ntmps39
 go_upto_region 1 with fail
 rw[←hW2,←hrl,←hpl];clear hW2 hpl hrl;go_wp2
 go_loopg [7] ql (fun M v7 wr=>∃ (i:Nat) (sfc:Sf),v7= .int .i64 i∧Hid (i≤ql∧M=ql - i)∧Hid (PaP w0 b pb wr S A n c l k 0 sfc gs qq vN vG cap (.slice Ax ql cx) (updP (fxP ns gs) i q))∧Hid (sfc=sf++linkS ns (gs.take (goesX (xs.take i))))∧Hid (BoxP wr pl [.int .i64 cap,.slice Ax ql cx])∧Hid (BoxP wr rl zeroPe))
 case atStart=>exact⟨0,sf,rfl,Lib.hid ⟨Nat.zero_le _,rfl⟩,Lib.hid (by rw[upd_zero];exact HP0.out),Lib.hid (by simp[goesX,linkS]),HB0,HR0⟩
 case round=>
  clear HP0 HB0 HR0;obtain⟨i,sfc,rfl,HI,HP,HSF,HB,HR⟩:=hrel;have hiq:=HI.out.1;obtain⟨p0,p1⟩:=HB.out.all2;by_cases hlt:i<ql
  ·have hlti:(i:Int)<(ql:Int):=by omega
   obtain⟨⟨x,v⟩,hx⟩:∃ x,q[i]?=some x:=⟨_,List.getElem?_eq_getElem (by have:=HQL.out;omega)⟩;obtain⟨gX,cX,hvX, -, -⟩:=HP.out.own.row.form (by rw[upd_len];have:=HQL.out;omega);injection hvX with hvA hvl hvc
   subst hvA hvc;clear hvl;have hxu:=upd_at (f:=fxP ns gs) hx;have HX:=Lib.hid hx;obtain⟨Ae,me,ce,hv⟩:=own_slice (HP.out.own.kids _ (List.mem_of_getElem? hxu));have hv:v= .slice Ae me ce:=hv;subst hv;obtain⟨el,hel⟩:∃ el,el=x.edges.length:=⟨_,rfl⟩
   have hme:me=el:=by
    have:=HP.out.own.kids _ (List.mem_of_getElem? hxu)
    rcases this.2 with ⟨e1,h0⟩ | ⟨g,cap9,cur,e1, -⟩
    ·injection e1 with _ e2 _;rw[e2,hel];exact h0.symm
    ·injection e1 with _ e2 _;rw[e2,hel]
   subst hme;have HEL:=Lib.hid hel;have hel9:me≤4001:=by rw[hel];exact HEE.out _ (List.mem_of_getElem? hx)
   have HXX:Hid (xs[i]?=some x):=Lib.hid (by rw[HXS.out,List.getElem?_map,hx];rfl);have HLG:Hid (∀ g,Ae=some g→b<g.block∧g.block<pl):=Lib.hid fun g hg=>HLT.out g.block (.inr ⟨_,List.mem_of_getElem? hx,by rw[hg];rfl⟩)
   obtain⟨X0,hX0⟩:∃ X0,X0=updP (fxP ns gs) i q:=⟨_,rfl⟩;have hx0:X0[i]?=some (x,.slice Ae me ce):=by rw[hX0];exact hxu
   have HX0:=Lib.hid hx0;have HPX:Hid (PaP w0 b pb wr S A n c l k 0 sfc gs qq vN vG cap (.slice (some ⟨gX,0,none⟩) ql cx) (X0.set i (⟨x.name,x.echo,updP (linkE ns gs) 0 x.edges⟩,.slice Ae me ce))):=Lib.hid (by rw[upd_zero,hX0];have:=upd_same (f:=fxP ns gs) hx;rw[this];exact HP.out);have HNX:Hid (X0.map (·.1.name)=ns):=Lib.hid (by rw[hX0,upd_names];exact HNQ.out);have HXE:=Lib.hid hX0;clear hxu hx hel hX0 hx0 HP;go_wp2
   go_loopg [8] me (fun M v8 wr=>∃ (j:Nat) (sfd:Sf),v8= .int .i64 j∧Hid (j≤me∧M=me - j)∧Hid (PaP w0 b pb wr S A n c l k 0 sfd gs qq vN vG cap (.slice (some ⟨gX,0,none⟩) ql cx) (X0.set i (⟨x.name,x.echo,updP (linkE ns gs) j x.edges⟩,.slice Ae me ce)))∧Hid (sfd=sf++linkS ns (gs.take (goesX (xs.take i)+goesL (x.edges.take j))))∧Hid (BoxP wr pl [.int .i64 cap,.slice (some ⟨gX,0,none⟩) ql cx])∧Hid (BoxP wr rl zeroPe))
   case atStart=>exact⟨0,sfc,rfl,Lib.hid ⟨Nat.zero_le _,rfl⟩,HPX,Lib.hid (by rw[HSF.out];simp[goesL]),HB,HR⟩
   case round=>
    clear HPX HB HR p0 p1;obtain⟨j,sfd,rfl,HJ,HP1,HSD,HB1,HR1⟩:=hrel;obtain⟨p0,p1⟩:=HB1.out.all2;have hQ:(X0.set i ((⟨x.name,x.echo,updP (linkE ns gs) j x.edges⟩:PlP),Value.slice Ae me ce))[i]?=some (⟨x.name,x.echo,updP (linkE ns gs) j x.edges⟩,.slice Ae me ce):=List.getElem?_set_self (List.getElem?_eq_some_iff.1 HX0.out).1;have k2:=xs_kids HP1.out.own hQ;have hjm:=HJ.out.1;by_cases hj:j<me
    ·have hji:(j:Int)<(me:Int):=by omega
     obtain⟨e,he⟩:∃ e,x.edges[j]?=some e:=⟨_,List.getElem?_eq_getElem (by have:=HEL.out;omega)⟩;have heu:=upd_at (f:=linkE ns gs) he;obtain⟨g,cp,hvE, -, -⟩:=(HP1.out.own.kids _ (List.mem_of_getElem? hQ)).form (by show 0<(updP (linkE ns gs) j x.edges).length;rw[upd_len];have:=HEL.out;omega);injection hvE with hvA hvl hvc
     subst hvA hvc;clear hvl;have hE:=xs_edge HP1.out.own hQ heu;have a0:wr.cell? ⟨g,j * 5,none⟩=some (.int .i64 e.kind):=hE 0 _ rfl;have a1:wr.cell? ⟨g,j * 5+1,none⟩=some (.string ⟨e.text.toArray⟩):=hE 1 _ rfl;have a2:wr.cell? ⟨g,j * 5+2,none⟩=some (.int .i64 e.lo):=hE 2 _ rfl;have a3:wr.cell? ⟨g,j * 5+3,none⟩=some (.int .i64 e.hi):=hE 3 _ rfl;have a4:wr.cell? ⟨g,j * 5+4,none⟩=some (.int .i64 e.to):=hE 4 _ rfl;have HLG1:Hid (b<g∧g<pl):=Lib.hid (HLG.out _ rfl);have HEJ:=Lib.hid he;obtain⟨kd,hkd⟩:∃ kd,kd=e.kind:=⟨_,rfl⟩;rw[←hkd] at a0;obtain⟨tb,htb⟩:∃ tb:ByteArray,tb=⟨e.text.toArray⟩:=⟨_,rfl⟩;rw[←htb] at a1;obtain⟨lo,hlo⟩:∃ kd,kd=e.lo:=⟨_,rfl⟩;rw[←hlo] at a2;obtain⟨hi,hhi⟩:∃ kd,kd=e.hi:=⟨_,rfl⟩;rw[←hhi] at a3;obtain⟨tt,htt⟩:∃ kd,kd=e.to:=⟨_,rfl⟩;rw[←htt] at a4;have HKD:=Lib.hid hkd;have HTT:=Lib.hid htt;clear hE heu he hQ hkd htb hlo hhi htt
     go_upto_region 8 with fail
     obtain⟨W3,hW3⟩:∃ W3,W3=wr.alloc (.cells #[.int .i64 kd,.string tb,.int .i64 lo,.int .i64 hi,.int .i64 tt] 39):=⟨_,rfl⟩;obtain⟨eb,heb⟩:∃ eb,eb=wr.heap.size:=⟨_,rfl⟩;have hb3:Below wr.heap.size wr W3:=by rw[hW3];exact one_boxP _ _
     have HP2:=Lib.hid (HP1.out.below hb3);have HB2:=Lib.hid (HB1.out.low (by simp) hb3);have HR2:=Lib.hid (HR1.out.low (by simp) hb3);have HEB:Hid (BoxP W3 eb [.int .i64 kd,.string tb,.int .i64 lo,.int .i64 hi,.int .i64 tt]):=Lib.hid (by rw[hW3,heb];exact BoxP.new wr 39 [.int .i64 kd,.string tb,.int .i64 lo,.int .i64 hi,.int .i64 tt]);have HEL3:Hid (b<eb):=Lib.hid (by rw[heb];exact HP1.out.rd.lt);rw[←hW3,←heb];clear hW3 heb hb3 HP1 HB1 HR1 p0 p1 k2 a0 a1 a2 a3 a4;obtain⟨d0,d1,d2,d3,d4⟩:=HEB.out.all5;by_cases h3:kd=3
     ·subst h3
      go_wp2
      go_roundg (me - (j+1))
      case measure=>have:=HJ.out.2;omega
      case rel=>
       have e3:linkE ns gs e=e:=link3 HKD.out.symm
       have hu:updP (linkE ns gs) (j+1) x.edges=updP (linkE ns gs) j x.edges:=by
        rw[←upd_set HEJ.out,e3,upd_same HEJ.out]
       refine⟨j+1,sfd,by go_num,Lib.hid ⟨by omega,rfl⟩,Lib.hid (by rw[hu];exact HP2.out),Lib.hid ?_,HB2,HR2⟩;rw[HSD.out,goesL_take HEJ.out,show goesP e=0 by unfold goesP;rw[if_pos HKD.out.symm],Nat.add_zero]
     ·obtain⟨m,hm⟩:∃ m,m=goesX (xs.take i)+goesL (x.edges.take j):=⟨_,rfl⟩
      have h3e:¬ e.kind=3:=by rw[←HKD.out];exact h3
      have htm:tt=(m:Int):=by
       rw[HTT.out];have h1:=okX_at xs 0 i x HOK.out HXX.out;rw[Nat.zero_add] at h1
       rcases okE_at x.edges _ j e h1 HEJ.out with e1 | e1
       ·exact absurd e1 h3e
       ·rw[e1,hm]
      have hmg:m<gs.length:=by rw[hm,←HGO.out];exact goes_lt HXX.out HEJ.out h3e
      obtain⟨y,hy⟩:∃ y,gs[m]?=some y:=⟨_,List.getElem?_eq_getElem hmg⟩;have HLE:Hid (linkE ns gs e=putTo e (idxP ns y.1)):=Lib.hid (linkN h3e (by rw[←HTT.out];exact htm) hy);obtain⟨gN,cN,gG,cG,hvN,n1,hvG,n2,hbg⟩:=rdp_names HP2.out.rd hy;subst hvN hvG;subst htm;have HY:=Lib.hid hy;have HYL:Hid (y.2<n):=Lib.hid (by rw[HP2.out.rd.len.1];exact HGL.out y (List.mem_of_getElem? hy));have HM:=Lib.hid hm;have HM1:Hid (goesX (xs.take i)+goesL (x.edges.take (j+1))=m+1):=Lib.hid (by rw[goesL_take HEJ.out,show goesP e=1 by unfold goesP;rw[if_neg h3e],hm];omega);have hmgi:(m:Int)<(gs.length:Int):=by omega
      obtain⟨gl,hgl2⟩:∃ gl,gl=gs.length:=⟨_,rfl⟩;have HG9:=Lib.hid hgl2;obtain⟨nw,hnw⟩:∃ nw:ByteArray,nw=⟨y.1.toArray⟩:=⟨_,rfl⟩;have HNW:=Lib.hid hnw;have b3:(kd==3)=false:=by simpa using h3
      have q0:=HB2.out.all2.1;have q1:=HB2.out.all2.2;clear h3 h3e hm hy hnw hgl2 n1 n2;have HMB:=Lib.hid hmg;go_wp2
      go_loopw [10,11] (fun v10 v11 wr=>∃ (j2:Nat) (z:Int),v10= .int .i64 (fndP ns y.1 j2)∧v11= .int .i64 z∧ -1≤z∧z<ql∧Hid (z=(j2:Int) - 1)∧Hid (Below W3.heap.size W3 wr)) (fun _ v11 _=>(intOf v11+1).toNat)
      case atStart=>
       have hnl:ns.length=ql:=by rw[HNS.out,List.length_map,HXL.out]
       refine⟨ql,(ql:Int) - 1,?_,?_,by omega,by omega,Lib.hid rfl,Lib.hid (Below.refl _ _)⟩
       ·rw[fnd_end (by omega)]
       ·first | rfl | simp
      case round=>
       obtain⟨j2,z,rfl,rfl,hz1,hz2,HZ,HBW⟩:=hrel;have HP3:=Lib.hid (HP2.out.below HBW.out);have HB3:=Lib.hid (HB2.out.low (by simp) HBW.out);have HR3:=Lib.hid (HR2.out.low (by simp) HBW.out);have HE3:=Lib.hid (HEB.out.low (by simp) HBW.out);obtain⟨p0,p1⟩:=HB3.out.all2;obtain⟨f0,f1,f2,f3,f4⟩:=HE3.out.all5;have c7:=HP3.out.rd.c7;have c8:=HP3.out.rd.c8
       have hn1:wr.cell? ⟨gN,m,none⟩=some (.string nw):=by
        obtain⟨gN2,cN2,gG2,cG2,e1,e2, -⟩:=rdp_names HP3.out.rd HY.out;injection e1 with e1 _ _
        injection e1 with e1
        injection e1 with e1 _
        rw[e1,HNW.out];exact e2
       have hn2:wr.cell? ⟨gG,m,none⟩=some (.int .i64 (y.2:Nat)):=by
        obtain⟨gN2,cN2,gG2,cG2, -, -,e1,e2, -⟩:=rdp_names HP3.out.rd HY.out;injection e1 with e1 _ _
        injection e1 with e1
        injection e1 with e1 _
        rw[e1];exact e2
       obtain⟨tv,htv⟩:∃ tv,tv=fndP ns y.1 j2:=⟨_,rfl⟩;rw[←htv];have HTV:=Lib.hid htv;clear htv;by_cases hz:0≤z
       ·obtain⟨t,rfl⟩:∃ t:Nat,z=t:=⟨z.toNat,by omega⟩
        have hj2:j2=t+1:=by have:=HZ.out;omega
        obtain⟨yn,hyn⟩:∃ yn,ns[t]?=some yn:=⟨_,List.getElem?_eq_getElem (by rw[HNS.out,List.length_map,HXL.out];omega)⟩;have k1:wr.cell? ⟨gX,t * 3,none⟩=some (.string ⟨yn.toArray⟩):=xs_name HP3.out.own (by rw[set_names (y:=(⟨x.name,x.echo,updP (linkE ns gs) j x.edges⟩,.slice (some ⟨g,0,none⟩) me ce)) HX0.out rfl,HNX.out];exact hyn);have hst:=fnd_step (w:=y.1) hyn;obtain⟨sn,hsn⟩:∃ sn:ByteArray,sn=⟨yn.toArray⟩:=⟨_,rfl⟩;rw[←hsn] at k1;by_cases hn:yn=y.1
        ·have hnn:sn=nw:=by rw[hsn,HNW.out,hn]
         subst hnn;have hb:(sn.toList==sn.toList)=true:=by simp
         have HV:Hid ((t:Int)=fndP ns y.1 t):=Lib.hid (by rw[hst,if_pos hn]);clear hst hn hyn hsn hj2 d0 d1 d2 d3 d4 q0 q1;go_wp2;go_quiet (fail);go_wp2
         go_roundw
         case rel=>exact⟨t,(t:Int) - 1,by rw[←HV.out],by go_num,by omega,by omega,Lib.hid rfl,Lib.hid (HBW.out.trans ((below_drewN (Below.refl _ _) _).mono HBW.out.size))⟩
         case measure=>first | (simp[intOf];done) | (simp[intOf];omega)
        ·have hb:(sn.toList==nw.toList)=false:=toListP_ne (by rw[hsn,HNW.out];exact fun e=>hn (bytes_injP e))
         have HV:Hid (tv=fndP ns y.1 t):=Lib.hid (by rw[hst,if_neg hn,HTV.out,hj2]);clear hst hn hyn hsn hj2 d0 d1 d2 d3 d4 q0 q1;go_wp2;go_quiet (fail);go_wp2
         go_roundw
         case rel=>exact⟨t,(t:Int) - 1,by rw[←HV.out],by go_num,by omega,by omega,Lib.hid rfl,Lib.hid (HBW.out.trans ((below_drewN (Below.refl _ _) _).mono HBW.out.size))⟩
         case measure=>first | (simp[intOf];done) | (simp[intOf];omega)
       ·have hj2:j2=0:=by have:=HZ.out;omega
        have HTV2:Hid (tv=idxP ns y.1):=Lib.hid (by rw[HTV.out,hj2,fnd_zero]);have hQ:(X0.set i ((⟨x.name,x.echo,updP (linkE ns gs) j x.edges⟩:PlP),Value.slice (some ⟨g,0,none⟩) me ce))[i]?=some (⟨x.name,x.echo,updP (linkE ns gs) j x.edges⟩,.slice (some ⟨g,0,none⟩) me ce):=List.getElem?_set_self (List.getElem?_eq_some_iff.1 HX0.out).1;by_cases hm:y.1∈ns
        ·have ht0:¬ tv<0:=by rw[HTV2.out];have:=(idx_ltP hm).1;omega
         have HMM:=Lib.hid hm
         have a4:wr.cell? ⟨g,j * 5+4,none⟩=some (.int .i64 (m:Int)):=by
          have:=xs_edge HP3.out.own hQ (upd_at (f:=linkE ns gs) HEJ.out) 4 _ rfl;rw[←HTT.out] at this;exact this
         have fz:wr.frozen? ⟨g,j * 5+4,none⟩=false:=by
          have h1:=HP3.out.own.kids _ (List.mem_of_getElem? hQ);have h2:(updP (linkE ns gs) j x.edges).length=me:=by rw[upd_len,HEL.out]
          have h1:wr.ownsRow (pb+1) 39 5 (.slice (some ⟨g,0,none⟩) me ce) (updP (linkE ns gs) j x.edges).length (cellsE (updP (linkE ns gs) j x.edges)):=h1;rw[h2] at h1;exact h1.frozenAt (j * 5+4)
         have k2:=xs_kids HP3.out.own hQ;clear d0 d1 d2 d3 d4 q0 q1 hj2 HTV HZ hm hQ;go_wp2
         go_roundg (me - (j+1))
         case measure=>have:=HJ.out.2;omega
         case rel=>
          have hst:=PaP.setTo2 HX0.out HP3.out (by rw[upd_len,HEL.out]) (upd_at (f:=linkE ns gs) HEJ.out) tv;rw[show (updP (linkE ns gs) j x.edges).set j (putTo e tv)=updP (linkE ns gs) (j+1) x.edges by rw[←upd_set HEJ.out,HLE.out,HTV2.out]] at hst;refine⟨j+1,sfd,by go_num,Lib.hid ⟨by omega,rfl⟩,Lib.hid hst,Lib.hid ?_,Lib.hid (HB3.out.other (a:=⟨g,j * 5+4,none⟩) (by have:=HLG1.out;show g≠pl;omega) _),Lib.hid (HR3.out.other (a:=⟨g,j * 5+4,none⟩) (by have:=HLG1.out;show g≠rl;omega) _)⟩;rw[HM1.out,linkS_take HY.out,if_pos HMM.out,List.append_nil,HSD.out,HM.out]
        ·have htv:tv= -1:=by rw[HTV2.out];unfold idxP;rw[if_neg hm]
         have HMM:=Lib.hid hm;have HTV3:=Lib.hid htv;have ht0:tv<0:=by omega
         have KS:=sofP b S A n c l y.2 6 (by decide) k 0 (fun _=>HYL.out) sfd gs qq (.slice (some ⟨gN,0,none⟩) gs.length cN) (.slice (some ⟨gG,0,none⟩) gs.length cG);have HPD:=Lib.hid (HP3.out.below (Below.refl _ _).drew);have HED:=Lib.hid (HE3.out.low (by simp) (Below.refl _ _).drew)
         have hG2:∀ (W9:World) (sf9:Sf),DocP b W9 S A n c l k 0 sf9 gs qq (.slice (some ⟨gN,0,none⟩) gs.length cN) (.slice (some ⟨gG,0,none⟩) gs.length cG)→W9.cell? ⟨gG,m,none⟩=some (.int .i64 (y.2:Nat)):=fun W9 sf9 h9=>by
          obtain⟨gN2,cN2,gG2,cG2, -, -,e1,e2, -⟩:=rdp_names h9 HY.out;injection e1 with e1 _ _
          injection e1 with e1
          injection e1 with e1 _
          rw[e1];exact e2
         have HG2:=Lib.hid hG2;have HS0:Hid (wr.cell? ⟨b,8,none⟩=some (.slice (some ⟨gG,0,none⟩) gs.length cG)∧wr.cell? ⟨eb,4,none⟩=some (.int .i64 (m:Int))∧wr.cell? ⟨gG,m,none⟩=some (.int .i64 (y.2:Nat))):=Lib.hid ⟨c8,f4,hn2⟩;have HS1:Hid (wr.drew.cell? ⟨b,8,none⟩=some (.slice (some ⟨gG,0,none⟩) gs.length cG)∧wr.drew.cell? ⟨eb,4,none⟩=some (.int .i64 (m:Int))∧wr.drew.cell? ⟨gG,m,none⟩=some (.int .i64 (y.2:Nat))):=Lib.hid ⟨HPD.out.rd.c8,HED.out.all5.2.2.2.2,HG2.out _ _ HPD.out.rd⟩;clear d0 d1 d2 d3 d4 q0 q1 hj2 HTV HZ hm hQ hG2 c7 c8 f0 f1 f2 f3 f4 hn1 hn2 p0 p1
         go_upto_region 16 with fail
         go_region_held3 (fun W'=>W'.cell? ⟨b,8,none⟩=some (.slice (some ⟨gG,0,none⟩) gs.length cG)∧W'.cell? ⟨eb,4,none⟩=some (.int .i64 (m:Int))∧W'.cell? ⟨gG,m,none⟩=some (.int .i64 (y.2:Nat))) (first | (with_reducible exact HS0.out) | (with_reducible exact HS1.out) | (with_reducible exact HS2.out))
          (first
           | (go_at_call 34;go_must (((with_reducible refine(KS.out _ HPD.out.rd).mono ?_));rintro e9 w5 ⟨rfl,hs⟩;have HP5:=Lib.hid (HPD.out.step hs);have HE5:=Lib.hid (HED.out.grown (by simp) hs.1 (by have:=HEL3.out;omega));have HB5:=Lib.hid ((HB3.out.low (by simp) (Below.refl _ _).drew).grown (by simp) hs.1 (by have:=HBP.out;omega));have HR5:=Lib.hid ((HR3.out.low (by simp) (Below.refl _ _).drew).grown (by simp) hs.1 (by have:=HBP.out;omega));have HS2:Hid (w5.cell? ⟨b,8,none⟩=some (.slice (some ⟨gG,0,none⟩) gs.length cG)∧w5.cell? ⟨eb,4,none⟩=some (.int .i64 (m:Int))∧w5.cell? ⟨gG,m,none⟩=some (.int .i64 (y.2:Nat))):=Lib.hid ⟨HP5.out.rd.c8,HE5.out.all5.2.2.2.2,HG2.out _ _ HP5.out.rd⟩;clear hs)))
         have hQ:(X0.set i ((⟨x.name,x.echo,updP (linkE ns gs) j x.edges⟩:PlP),Value.slice (some ⟨g,0,none⟩) me ce))[i]?=some (⟨x.name,x.echo,updP (linkE ns gs) j x.edges⟩,.slice (some ⟨g,0,none⟩) me ce):=List.getElem?_set_self (List.getElem?_eq_some_iff.1 HX0.out).1
         have a4:w5.cell? ⟨g,j * 5+4,none⟩=some (.int .i64 (m:Int)):=by
          have:=xs_edge HP5.out.own hQ (upd_at (f:=linkE ns gs) HEJ.out) 4 _ rfl;rw[←HTT.out] at this;exact this
         have fz:w5.frozen? ⟨g,j * 5+4,none⟩=false:=by
          have h1:=HP5.out.own.kids _ (List.mem_of_getElem? hQ);have h2:(updP (linkE ns gs) j x.edges).length=me:=by rw[upd_len,HEL.out]
          have h1:w5.ownsRow (pb+1) 39 5 (.slice (some ⟨g,0,none⟩) me ce) (updP (linkE ns gs) j x.edges).length (cellsE (updP (linkE ns gs) j x.edges)):=h1;rw[h2] at h1;exact h1.frozenAt (j * 5+4)
         have k2:=xs_kids HP5.out.own hQ;obtain⟨p0,p1⟩:=HB5.out.all2;clear hQ;go_wp2
         go_roundg (me - (j+1))
         case measure=>have:=HJ.out.2;omega
         case rel=>
          have hst:=PaP.setTo2 HX0.out HP5.out (by rw[upd_len,HEL.out]) (upd_at (f:=linkE ns gs) HEJ.out) tv;rw[show (updP (linkE ns gs) j x.edges).set j (putTo e tv)=updP (linkE ns gs) (j+1) x.edges by rw[←upd_set HEJ.out,HLE.out,HTV2.out]] at hst;rw[HTV3.out] at hst;refine⟨j+1,(sfd++[(y.2,6)]),by go_num,Lib.hid ⟨by omega,rfl⟩,Lib.hid hst,Lib.hid ?_,Lib.hid (HB5.out.other (a:=⟨g,j * 5+4,none⟩) (by have:=HLG1.out;show g≠pl;omega) _),Lib.hid (HR5.out.other (a:=⟨g,j * 5+4,none⟩) (by have:=HLG1.out;show g≠rl;omega) _)⟩;rw[HM1.out,linkS_take HY.out,if_neg HMM.out,HSD.out,HM.out,List.append_assoc]
    ·have hjm2:j=me:=by omega
     have hji:¬ (j:Int)<(me:Int):=by omega
     have HFX:Hid (X0.set i ((⟨x.name,x.echo,updP (linkE ns gs) j x.edges⟩:PlP),Value.slice Ae me ce)=updP (fxP ns gs) (i+1) q):=Lib.hid (by
      rw[upd_all (by rw[←HEL.out];omega),HXE.out,←upd_set HX.out];rfl)
     clear hQ;go_wp2
     go_roundg (ql - (i+1))
     case measure=>have:=HI.out.2;omega
     case rel=>
      refine⟨i+1,sfd,by go_num,Lib.hid ⟨by omega,rfl⟩,Lib.hid (by rw[←HFX.out];exact HP1.out),Lib.hid ?_,HB1,HR1⟩;rw[HSD.out,goesX_take HXX.out,List.take_of_length_le (l:=x.edges) (by rw[←HEL.out];omega)]
  ·have hlti:¬ (i:Int)<(ql:Int):=by omega
   have hiq2:i=ql:=by omega
   have HPQ:Hid (PaP w0 b pb wr S A n c l k 0 sfc gs qq vN vG cap (.slice Ax ql cx) (q.map (fxP ns gs))):=Lib.hid (by rw[←upd_all (f:=fxP ns gs) (k:=i) (by have:=HQL.out;omega)];exact HP.out);have hsf:sfc=sf++linkS ns gs:=by rw[HSF.out,List.take_of_length_le (l:=xs) (by rw[HXL.out];omega),HGO.out,List.take_of_length_le (Nat.le_refl _)]
   have HFIN:Hid (∀ W',(∀ g,pl≠g→rl≠g→b<g→W'.heap[g]?=wr.heap[g]?)→RdX W'.heap.size W' Ax ql (xs.map (linkX ns gs))):=Lib.hid fun W' hk=>by
    have h1:=HPQ.out.own.keep (w':=W') fun g hg=>by
     have h2:=HLT.out g (by
      rcases hg with hg | ⟨z,hz,hg⟩
      ·exact .inl hg
      ·obtain⟨z0,hz0,rfl⟩:=List.mem_map.1 hz
       exact .inr ⟨z0,hz0,hg⟩)
     exact hk g (by omega) (by omega) h2.1
    obtain⟨A',c',e1,hr⟩:=h1.read;injection e1 with e1 e2 e3
    rw[List.length_map,←HQL.out] at hr;have e4:(q.map (fxP ns gs)).map (·.1)=xs.map (linkX ns gs):=by rw[HXS.out,List.map_map,List.map_map];rfl
    rw[e4] at hr;rw[e1];exact hr
   have hhb:=HPQ.out.hb;have HHB:=Lib.hid hhb;obtain⟨e5,p5,y5,y6,y7⟩:=HPQ.out.rd.ey;have y7:=y7 rfl;unfold SoftC at y7;rw[hsf] at y7;obtain⟨z0,z1⟩:=HR.out.all2;obtain⟨zf0,zf1⟩:=HR.out.fre2;have HLOW:=Lib.hid HPQ.out.low;have HRR:=HR.out
   cases hq:softsP l none (sf++linkS ns gs) with
   | none=>
     rw[hq] at y7;have y7:e5=0:=y7;subst y7;have HO:=Lib.hid (HOUT.out.2 hq);clear hq hsf hhb HRR;go_wp2;obtain⟨W9,hW9⟩:∃ W9,W9=(wr.setCell ⟨rl,0,none⟩ (.int .i64 cap)).setCell ⟨rl,1,none⟩ (.slice Ax ql cx):=⟨_,rfl⟩;have HX3:BoxP W9 rl [.int .i64 cap,.slice Ax ql cx]:=by rw[hW9];exact(HR.out.set 0 (by simp) (.int .i64 cap)).set 1 (by simp) (.slice Ax ql cx)
     obtain⟨l0,l1⟩:=HX3.all2;rw[←hW9];refine bodyPost_ret (v:= .tuple #[.agg #[.int .i64 cap,.slice Ax ql cx],.int .i64 0,.int .i64 0]) (by simp[results,Tryz.results39,go_sem,l0,l1]) rfl ⟨Ax,ql,cx,?_,fun W' hk=>?_,?_⟩
     ·rw[HO.out];rfl
     ·have e6:(peO OUT).places=xs.map (linkX ns gs):=by rw[HO.out,HNS.out];rfl
      rw[e6];refine HFIN.out W' fun g h1 h2 h3=>?_
      have:=HHB.out;rw[hk g (by omega),hW9,Below.heap_setCell _ _ _ _ (fun e=>h2 e.symm),Below.heap_setCell _ _ _ _ (fun e=>h2 e.symm)]
     ·rw[hW9]
      exact(HLOW.out.setCell (by show w0.heap.size≤rl;exact HRL.out) _).setCell (by show w0.heap.size≤rl;exact HRL.out) _
   | some y=>
     rw[hq] at y7;obtain⟨t1,t2,t3⟩:=y7;have HO:=Lib.hid (HOUT.out.1 y hq);have HT1:=Lib.hid t1;have HT2:=Lib.hid t2;have b5:(e5==0)=false:=by simpa using t3
     have b6:(e5 != 0)=true:=by simpa using t3
     clear hq hsf hhb HRR t1 t2 t3;go_wp2
     go_region
     go_wp2;obtain⟨W9,hW9⟩:∃ W9,W9=((wr.setCell ⟨rl,0,none⟩ (.int .i64 0)).setCell ⟨rl,1,none⟩ (.slice none 0 0)).drew:=⟨_,rfl⟩;have HX3:BoxP W9 rl zeroPe:=by rw[hW9];exact((HR.out.set 0 (by simp) (.int .i64 0)).set 1 (by simp) (.slice none 0 0)).drews 1
     obtain⟨l0,l1⟩:=HX3.all2;rw[←hW9];refine bodyPost_ret (v:= .tuple #[.agg #[.int .i64 0,.slice none 0 0],.int .i64 p5,.int .i64 e5]) (by simp[results,Tryz.results39,go_sem,l0,l1]) rfl ⟨none,0,0,?_,fun W' hk=>?_,?_⟩
     ·rw[HO.out,HT1.out,HT2.out];rfl
     ·rw[HO.out];exact⟨rfl,fun h=>by omega⟩
     ·rw[hW9]
      exact((HLOW.out.setCell (by show w0.heap.size≤rl;exact HRL.out) _).setCell (by show w0.heap.size≤rl;exact HRL.out) _).drew
end Go.Proofs.YtdobinjbejagcaaGreatDoor
