import Derived.Test.YtiafefjaldcpbaaDoorL6
import Derived.Test.YtiafefjaldcpbaaDoorSetW
namespace Go.Proofs.YtiafefjaldcpbaaDoor
open Go Go.RowKit
set_option maxRecDepth 100000
set_option maxHeartbeats 8000000
section
theorem info65:(Tryd.prog.info? 65).map (fun i=>(i.zero,i.size,i.bytes))=some (some (.agg #[.int .i64 0,.int .i64 0]),2,16):=by kernel_rfl
theorem two_int (a b:Int):∀ u∈[Value.int .i64 a,Value.int .i64 b],u.oneCell'=true:=by
 intro u hu;simp only[List.mem_cons,List.not_mem_nil,or_false] at hu
 rcases hu with rfl | rfl <;> rfl
theorem kids_par {Q:Pm} (h:TabC Q) {n:Nat} {x:Nd} (hx:Q.T[n]?=some x):(∀ k,k∈x.kids→k≠0∧∃ y,Q.T[k]?=some y∧y.par=n)∧x.kids.length≤Q.T.length:=by
 obtain⟨p,nx,c,e1,e2,e3⟩:=h.ok.nd hx;have hkk:x.kids=kidsAt (n+1) x.r.kids:=by rw[e1];rfl
 have key:∀ (l:List Re) (q:Bool) (a c' k:Nat),SubL Q.T a l q n c'→0<a→k∈kidsAt a l→k≠0∧∃ y,Q.T[k]?=some y∧y.par=n:=by
  intro l
  induction l with
  | nil=>intro q a c' k _ _ h;cases h
  | cons r l ihl=>
    intro q a c' k hl ha h;obtain⟨g1,g2⟩:=subL_cons hl;rw[kidsAt] at h
    rcases List.mem_cons.1 h with h | h
    ·subst h;exact⟨by omega,_,sub_at g1,rfl⟩
    ·exact ihl _ _ _ _ g2 (by omega) h
 have hlen:∀ (l:List Re) a,(kidsAt a l).length=l.length:=by
  intro l
  induction l with
  | nil=>intro a;rfl
  | cons r l ihl=>intro a;rw[kidsAt,List.length_cons,List.length_cons,ihl]
 refine⟨fun k hk=>key _ _ _ _ _ (sub_kids e2) (by omega) (by rw[←hkk];exact hk),?_⟩;rw[hkk,hlen];obtain⟨z,hz⟩:=e2;have:=congrArg List.length hz;rw[List.length_append,tab_len,List.length_drop] at this;have h2:=sizeL_len x.r.kids;have h3:sizeE x.r=1+sizeL x.r.kids:=by cases x.r;rw[sizeE];rfl
 omega
theorem and_two (B E:Bool):bits .and .i64 ((modeN B E:Nat):Int) 2=if E=true then 2 else 0:=by cases B <;> cases E <;> decide
theorem wait_end {Q:Pm} {c:LkP} {DB BB:Nat} {ab:Nat→Nat} {vw:Value} {w0 w1 w3:World} {S1:LS} {n t g cap:Nat} (hl:LkC Q c DB BB ab vw w1 S1) (hb:Below c.B w0 w1)
  (hown:w3.ownsRow c.B 65 2 (.slice (some ⟨g,0,none⟩) (S1.waits.length+1) cap) (S1.waits.length+1) (cellsW S1.waits++[.int .i64 n,.int .i64 t])) (hg:w1.grownBy w3 vw.ownBlock) (hat:vw.ownBlock=some g∨g=w1.heap.size):
  Lk Q c (w3.setCell ⟨c.L,5,none⟩ (.slice (some ⟨g,0,none⟩) (S1.waits.length+1) cap)) (wait S1 n t)∧Below c.B w0 (w3.setCell ⟨c.L,5,none⟩ (.slice (some ⟨g,0,none⟩) (S1.waits.length+1) cap)):=by
 refine⟨⟨DB,BB,ab,_,hl.wait_ hown hg (hat.imp id (fun e=>by omega))⟩,?_⟩;have hBs:c.B≤w1.heap.size:=by have:=hl.b1.1;have:=hl.b3.1;omega
 exact(hb.grown hg hBs (fun k hk=>(hl.waits.lt k hk).1)).setCell hl.b1.1 _
theorem wait_box {Q:Pm} {c:LkP} {DB BB:Nat} {ab:Nat→Nat} {vw:Value} {w1 w3:World} {S1:LS} (hl:LkC Q c DB BB ab vw w1 S1) (hg:w1.grownBy w3 vw.ownBlock):w3.cell? ⟨c.L,5,none⟩=some vw∧w3.frozen? ⟨c.L,5,none⟩=false:=by
 have e:w3.heap[c.L]?=w1.heap[c.L]?:=hg.block c.L hl.b3.1 (fun e=>hl.b2.1 e.symm);exact⟨(World.cell?_of_block (a:=⟨c.L,5,none⟩) e).trans hl.c5,(World.frozen?_of_block (a:=⟨c.L,5,none⟩) e).trans (hl.f 5)⟩
def LoopK2 (Q:Pm) (c:LkP) (w0:World) (S:LS) (t:Nat) (ks:List Nat) (i:Value) (wr:World):Prop:=
 ∃ (j:Nat) (S1:LS),j≤ks.length∧i= .int .i64 j∧(∀ S',Run Q (.ents (ks.drop j) t) S1 S'→Run Q (.ents ks t) S S')∧LSt Q c w0 wr S1∧KidI Q S1∧left S1≤left S
structure EntH (Q:Pm) (c:LkP) (w0:World) (S:LS) (n t:Nat) (x:Nd) (DB BB:Nat) (ab:Nat→Nat) (vw:Value):Prop where
 ctx:Ctx Q c w0
 ok:OkS Q S
 sml:Sml S
 vn:VN Q n t
 kid:KidI Q (mark Q S n t 1)
 new:¬ has Q S n t 1
 px:Q.T[n]?=some x
 ent:∀ S',left S'<left S→EntAt Q c w0 S'
 fin:∀ S',left S'<left S→FinAt Q c w0 S'
section
variable {Q:Pm} {c:LkP} {w0 w1:World} {S:LS} {n t:Nat} {x:Nd} {DB BB:Nat} {ab:Nat→Nat} {vw:Value}
theorem EntH.st (h:EntH Q c w0 S n t x DB BB ab vw) (hl:LkC Q c DB BB ab vw w1 (mark Q S n t 1)) (hb:Below c.B w0 w1):LSt Q c w0 w1 (mark Q S n t 1):=⟨hb,⟨DB,BB,ab,vw,hl⟩,h.ok.mark _ _ _,(did_mark Q h.sml n t (.inl rfl)).sml⟩
theorem EntH.less (h:EntH Q c w0 S n t x DB BB ab vw):left (mark Q S n t 1)<left S:=did_less h.ok h.sml h.vn.1 (h.vn.lt h.ctx.tab) (.inl rfl) h.new
theorem EntH.ent' (h:EntH Q c w0 S n t x DB BB ab vw):∀ S',left S'≤left (mark Q S n t 1)→EntAt Q c w0 S':=fun S' hs=>h.ent S' (by have:=h.less;omega)
theorem EntH.fin' (h:EntH Q c w0 S n t x DB BB ab vw):∀ S',left S'≤left (mark Q S n t 1)→FinAt Q c w0 S':=fun S' hs=>h.fin S' (by have:=h.less;omega)
end
theorem ent_set_any {Q:Pm} {c:LkP} {w0 w:World} {S:LS} {n t:Nat} {x:Nd} {DB BB:Nat} {ab:Nat→Nat} {vw:Value} (h:EntH Q c w0 S n t x DB BB ab vw) (hl:LkC Q c DB BB ab vw w S) (hb:Below c.B w0 w) (h1:x.r.kind=1∨(x.r.kind=3∧Q.E=false)):
  Calls Tryd.prog 24 #[.pointer (some ⟨c.L,0,none⟩),.int .i64 n,.int .i64 t] w (PostLk Q c w0 (.ent n t) S):=by
 obtain⟨A,cp,rfl⟩:=row_slice hl.waits;have HN:Hid (Calls Tryd.prog 35 #[.pointer (some ⟨c.L,0,none⟩),.int .i64 n,.int .i64 t,.int .u8 1] w fun e w'=>e= .returned (.bool true)∧LkC Q c DB BB ab (.slice A S.waits.length cp) w' (mark Q S n t 1)∧Below c.B w w'):=Lib.hid (isnew_new hl h.ok h.sml h.ctx.szs h.vn.1 (h.vn.lt h.ctx.tab) (wh:=1) (.inl rfl) h.new);have HB:=Lib.hid hb;have hnP:n<Q.T.length:=h.vn.1;obtain⟨P,hP⟩:∃ v,v=Q.T.length:=⟨_,rfl⟩;obtain⟨m,hm⟩:∃ v,v=S.waits.length:=⟨_,rfl⟩;obtain⟨kd,hkd⟩:∃ v,v=x.r.kind:=⟨_,rfl⟩
 have hm9:m≤4000000000:=by
  have e1:=h.sml.2;have e2:=sum_le h.sml.1;have e3:=(idx_le h.ctx.szs h.vn.1 (h.vn.lt h.ctx.tab)).2.2;have e4:=h.ok.dlen;omega
 obtain⟨md,hmd⟩:∃ v,v=modeN Q.B Q.E:=⟨_,rfl⟩
 have HG:Hid (∀ W,LkC Q c DB BB ab (.slice A m cp) W (mark Q S n t 1)→Below c.B w0 W→W.cell? (c.PA.add (n * 15))=some (.int .i64 kd)∧W.cell? ⟨c.L,0,none⟩=some (.slice (some c.PA) P c.pc)∧W.cell? ⟨c.L,1,none⟩=some (.int .i64 (md:Nat))∧W.cell? ⟨c.L,5,none⟩=some (.slice A m cp)):=Lib.hid fun W hl1 hb1=>by
  obtain⟨K,kk,h15,_⟩:=h.ctx.part hb1 h.px;rw[hP,hkd,hmd];exact⟨h15.1,hl1.c0,hl1.c1,hl1.c5⟩
 have HRow:Hid (∀ W,LkC Q c DB BB ab (.slice A m cp) W (mark Q S n t 1)→W.ownsRow c.B 65 2 (.slice A m cp) m (cellsW S.waits)):=Lib.hid fun W hl1=>by rw[hm];rw[hm] at hl1;exact hl1.waits
 have HBs:Hid (∀ W,LkC Q c DB BB ab (.slice A m cp) W (mark Q S n t 1)→c.B≤W.heap.size):=Lib.hid fun W hl1=>by have:=hl1.b1.1;have:=hl1.b3.1;omega
 have HE:Hid (∀ W w3 g cap,LkC Q c DB BB ab (.slice A m cp) W (mark Q S n t 1)→Below c.B w0 W→w3.ownsRow c.B 65 2 (.slice (some ⟨g,0,none⟩) (m+1) cap) (m+1) (cellsW S.waits++[.int .i64 n,.int .i64 t])→(W.alloc (.cells #[.int .i64 (n:Nat),.int .i64 (t:Nat)] 65)).grownBy w3 (Value.slice A m cp).ownBlock→
   ((Value.slice A m cp).ownBlock=some g∨g=(W.alloc (.cells #[.int .i64 (n:Nat),.int .i64 (t:Nat)] 65)).heap.size)→PostLk Q c w0 (.ent n t) S (.returned (.tuple #[])) (w3.setCell ⟨c.L,5,none⟩ (.slice (some ⟨g,0,none⟩) (m+1) cap))):=Lib.hid fun W w3 g cap hl1 hb1 ho hg ha=>by
  have hb2:=hb1.alloc (by have:=hl1.b1.1;have:=hl1.b3.1;omega) (.cells #[.int .i64 (n:Nat),.int .i64 (t:Nat)] 65);subst hm;obtain⟨q1,q2⟩:=wait_end (n:=n) (t:=t) (S1:=mark Q S n t 1) (hl1.alloc _) hb2 ho hg ha;have hi:t * Q.T.length+n<S.did.length:=by rw[h.ok.dlen];exact(idx_le h.ctx.szs h.vn.1 (h.vn.lt h.ctx.tab)).2.1
  refine⟨rfl,_,?_,q1,q2⟩
  rcases h1 with h1 | ⟨h1,h2⟩
  ·exact .ent_set h.new h.px h1 hi
  ·exact .ent_end h.new h.px h1 h2 hi
 obtain⟨i0,hi0,hz0,hz1,hz2⟩:=info_parts info65;rw[←hP] at hnP;rw[←hm] at HN
 rcases h1 with h1 | ⟨h1,h2⟩
 ·have hk1:kd=1:=by omega
  subst hk1;clear h hl hb hP hm hkd hmd h1;go_enter Tryd.func24,Tryd.ntmps24;go_wp2_with (first | (go_at_call 35;((with_reducible refine(HN.out).mono ?_));rintro e w1 ⟨rfl,hl1,hb1⟩;have HL1:=Lib.hid hl1;have HB1:=Lib.hid (HB.out.trans hb1);obtain⟨a0,c0,c1,c5⟩:=HG.out w1 hl1 (HB.out.trans hb1);have HR1:=Lib.hid (HRow.out w1 hl1);have HSZ:=Lib.hid (HBs.out w1 hl1);clear hl1 hb1) | (at_builtin;refine wpList_append_lies _ rfl (.tmp 43) (.tmp 47) 51 rfl c.B 65 i0 (.agg #[.int .i64 0,.int .i64 0]) 2 16 Tryd.underlying51 hi0 hz0 hz1 hz2 rfl (by decide) _ _ _ rfl (HR1.out.alloc _) ⟨w1.heap.size,0,none⟩ 1 1 [.int .i64 (n:Nat),.int .i64 (t:Nat)] rfl rfl (fun j u hu=>new_cells w1 65 #[.int .i64 (n:Nat),.int .i64 (t:Nat)] j u hu) (two_int _ _) (by decide) (by unfold maxLen;omega) (by omega) (by have:=HSZ.out;simp;omega) _ rfl ?_;intro g3 cap3 w3 hown' hgrow hat hlt;have HOWN:=Lib.hid hown';have HGR:=Lib.hid hgrow;have HAT:=Lib.hid hat;obtain⟨d5,f5⟩:=wait_box (HL1.out.alloc _) hgrow;clear hown' hgrow hat hlt))
  go_end0
  exact HE.out w1 _ _ _ HL1.out HB1.out HOWN.out HGR.out HAT.out
 ·have hk1:kd=3:=by omega
  subst hk1;have e1:=and_two Q.B Q.E;rw[h2,if_neg (by simp)] at e1;rw[h2] at hmd;rw[←hmd] at e1;clear h hl hb hP hm hkd hmd h1 h2;go_enter Tryd.func24,Tryd.ntmps24;go_wp2_with (first | (go_at_call 35;((with_reducible refine(HN.out).mono ?_));rintro e w1 ⟨rfl,hl1,hb1⟩;have HL1:=Lib.hid hl1;have HB1:=Lib.hid (HB.out.trans hb1);obtain⟨a0,c0,c1,c5⟩:=HG.out w1 hl1 (HB.out.trans hb1);have HR1:=Lib.hid (HRow.out w1 hl1);have HSZ:=Lib.hid (HBs.out w1 hl1);clear hl1 hb1) | (at_builtin;refine wpList_append_lies _ rfl (.tmp 63) (.tmp 67) 51 rfl c.B 65 i0 (.agg #[.int .i64 0,.int .i64 0]) 2 16 Tryd.underlying51 hi0 hz0 hz1 hz2 rfl (by decide) _ _ _ rfl (HR1.out.alloc _) ⟨w1.heap.size,0,none⟩ 1 1 [.int .i64 (n:Nat),.int .i64 (t:Nat)] rfl rfl (fun j u hu=>new_cells w1 65 #[.int .i64 (n:Nat),.int .i64 (t:Nat)] j u hu) (two_int _ _) (by decide) (by unfold maxLen;omega) (by omega) (by have:=HSZ.out;simp;omega) _ rfl ?_;intro g3 cap3 w3 hown' hgrow hat hlt;have HOWN:=Lib.hid hown';have HGR:=Lib.hid hgrow;have HAT:=Lib.hid hat;obtain⟨d5,f5⟩:=wait_box (HL1.out.alloc _) hgrow;clear hown' hgrow hat hlt))
  go_end0
  exact HE.out w1 _ _ _ HL1.out HB1.out HOWN.out HGR.out HAT.out
end
section
section
variable {Q:Pm} {c:LkP} {w0 w:World} {S:LS} {n t:Nat} {x:Nd} {DB BB:Nat} {ab:Nat→Nat} {vw:Value}
theorem EntH.first(h:EntH Q c w0 S n t x DB BB ab vw) (hl:LkC Q c DB BB ab vw w S) (hb:Below c.B w0 w):
  Calls Tryd.prog 35 #[.pointer (some ⟨c.L,0,none⟩),.int .i64 n,.int .i64 t,.int .u8 1] w fun e w'=>e= .returned (.bool true)∧LSt Q c w0 w' (mark Q S n t 1):=
 (isnew_new hl h.ok h.sml h.ctx.szs h.vn.1 (h.vn.lt h.ctx.tab) (wh:=1) (.inl rfl) h.new).mono fun _ _ ⟨h1,h2,h3⟩=>⟨h1,h.st h2 (hb.trans h3)⟩
theorem ent_old_any (hc:Ctx Q c w0) (hs:LSt Q c w0 w S) (hv:VN Q n t) (hh:has Q S n t 1):
  Calls Tryd.prog 24 #[.pointer (some ⟨c.L,0,none⟩),.int .i64 n,.int .i64 t] w (PostLk Q c w0 (.ent n t) S):=by
 obtain⟨DB,BB,ab,vw,hl⟩:=hs.lk;have HN:Hid (Calls Tryd.prog 35 #[.pointer (some ⟨c.L,0,none⟩),.int .i64 n,.int .i64 t,.int .u8 1] w fun e w'=>e= .returned (.bool false)∧∃ m,w'=w.drewN m):=Lib.hid (isnew_old hl hs.ok hs.sml hc.szs hv.1 (hv.lt hc.tab) (wh:=1) (.inl rfl) hh);have HE:Hid (∀ m,PostLk Q c w0 (.ent n t) S (.returned (.tuple #[])) (w.drewN m)):=Lib.hid fun m=>⟨rfl,S,.ent_old hh,hs.lk.drews m,hs.below.trans (below_dn _ _ _)⟩
 clear hc hs hv hh hl;go_enter Tryd.func24,Tryd.ntmps24;go_wp2_with (go_at_call 35;((with_reducible refine(HN.out).mono ?_));rintro e w1 ⟨rfl,m,rfl⟩)
 go_end0
 exact HE.out _
theorem ent_one_any (h:EntH Q c w0 S n t x DB BB ab vw) (hl:LkC Q c DB BB ab vw w S) (hb:Below c.B w0 w) (h1:(x.r.kind=3∧Q.E=true)∨x.r.kind=6):
  Calls Tryd.prog 24 #[.pointer (some ⟨c.L,0,none⟩),.int .i64 n,.int .i64 t] w (PostLk Q c w0 (.ent n t) S):=by
 have HN:=Lib.hid (h.first hl hb);have hnP:n<Q.T.length:=h.vn.1;obtain⟨P,hP⟩:∃ v,v=Q.T.length:=⟨_,rfl⟩;obtain⟨kd,hkd⟩:∃ v,v=x.r.kind:=⟨_,rfl⟩;obtain⟨md,hmd⟩:∃ v,v=modeN Q.B Q.E:=⟨_,rfl⟩
 have HG:Hid (∀ W,LSt Q c w0 W (mark Q S n t 1)→W.cell? (c.PA.add (n * 15))=some (.int .i64 kd)∧W.cell? ⟨c.L,0,none⟩=some (.slice (some c.PA) P c.pc)∧W.cell? ⟨c.L,1,none⟩=some (.int .i64 (md:Nat))):=Lib.hid fun W hs=>by
  obtain⟨K,kk,h15,_⟩:=h.ctx.part hs.below h.px;rw[hP,hkd,hmd];exact⟨h15.1,hs.lk.l0,hs.lk.l1⟩
 have HF:Hid (∀ W,LSt Q c w0 W (mark Q S n t 1)→Calls Tryd.prog 31 #[.pointer (some ⟨c.L,0,none⟩),.int .i64 n,.int .i64 t] W (PostLk Q c w0 (.fin n t) (mark Q S n t 1))):=Lib.hid fun W hs=>h.fin' _ (Nat.le_refl _) W n t hs h.vn h.kid
 have HR:Hid (∀ W,LSt Q c w0 W (mark Q S n t 1)→x.r.kind=6→Calls Tryd.prog 36 #[.pointer (some ⟨c.L,0,none⟩),.int .i64 n,.int .i64 t] W (PostLk Q c w0 (.rep n t) (mark Q S n t 1))):=Lib.hid fun W hs h6=>rep_any h.ctx hs h.kid h.ent' h.fin' h.px h6 h.vn
 have HX:=Lib.hid h;rw[←hP] at hnP
 rcases h1 with ⟨h1,h2⟩ | h1
 ·have hk1:kd=3:=by omega
  subst hk1;have e1:=and_two Q.B Q.E;rw[h2,if_pos rfl] at e1;rw[h2] at hmd;rw[←hmd] at e1;have H1:Hid (x.r.kind=3∧Q.E=true):=Lib.hid ⟨h1,h2⟩;clear h hl hb hP hkd hmd h1 h2;go_enter Tryd.func24,Tryd.ntmps24;go_wp2_with (first | (go_at_call 35;((with_reducible refine(HN.out).mono ?_));rintro e w1 ⟨rfl,hs1⟩;have HS1:=Lib.hid hs1;obtain⟨a0,c0,c1⟩:=HG.out w1 hs1;clear hs1) | (go_at_call 31;((with_reducible refine(HF.out _ HS1.out).mono ?_));rintro e w2 ⟨rfl,S2,hr2,hl2,hb2⟩))
  go_end0
  exact⟨rfl,S2,.ent_fin HX.out.new HX.out.px H1.out.1 H1.out.2 hr2,hl2,hb2⟩
 ·have hk1:kd=6:=by omega
  subst hk1;have H1:=Lib.hid h1;clear h hl hb hP hkd hmd h1;go_enter Tryd.func24,Tryd.ntmps24;go_wp2_with (first | (go_at_call 35;((with_reducible refine(HN.out).mono ?_));rintro e w1 ⟨rfl,hs1⟩;have HS1:=Lib.hid hs1;obtain⟨a0,c0,c1⟩:=HG.out w1 hs1;clear hs1) | (go_at_call 36;((with_reducible refine(HR.out _ HS1.out H1.out).mono ?_));rintro e w2 ⟨rfl,S2,hr2,hl2,hb2⟩))
  go_end0
  exact⟨rfl,S2,.ent_rep HX.out.new HX.out.px H1.out hr2,hl2,hb2⟩
theorem ent_cat_any (h:EntH Q c w0 S n t x DB BB ab vw) (hl:LkC Q c DB BB ab vw w S) (hb:Below c.B w0 w) (h1:x.r.kind=4):
  Calls Tryd.prog 24 #[.pointer (some ⟨c.L,0,none⟩),.int .i64 n,.int .i64 t] w (PostLk Q c w0 (.ent n t) S):=by
 have HN:=Lib.hid (h.first hl hb);have hnP:n<Q.T.length:=h.vn.1;obtain⟨P,hP⟩:∃ v,v=Q.T.length:=⟨_,rfl⟩;obtain⟨p,nx,cc,e1,e2,e3⟩:=h.ctx.tab.ok.nd h.px;have hc0:x.cn=0:=by rw[e1];exact cn_cat (by omega)
 obtain⟨z,z',l',hk⟩:∃ z z' l',x.r.kids=z::z'::l':=by have:=e3.cases;simp only[h1] at this;simpa using this
 obtain⟨k,l,hkk⟩:∃ k l,x.kids=k::l:=by
  have:x.kids=kidsAt (n+1) x.r.kids:=by rw[e1];rfl
  rw[this,hk,kidsAt];exact⟨_,_,rfl⟩
 obtain⟨k0,y,hy,hyp⟩:=(kids_par h.ctx.tab h.px).1 k (by rw[hkk];exact List.mem_cons_self ..);have vk:VN Q k t:=h.vn.kid h.px hc0 hy k0 hyp
 have HG:Hid (∀ W,LSt Q c w0 W (mark Q S n t 1)→W.cell? (c.PA.add (n * 15))=some (.int .i64 4)∧W.cell? ⟨c.L,0,none⟩=some (.slice (some c.PA) P c.pc)∧∃ ad kk,W.cell? ⟨(c.PA.add (n * 15)).block,(c.PA.add (n * 15)).off+7,none⟩=some (.slice (some ad) (l.length+1) kk)∧W.cell? ad=some (.int .i64 k)):=Lib.hid fun W hs=>by
  obtain⟨K,kk,h15,hK⟩:=h.ctx.part hs.below h.px;obtain⟨ad,rfl,_,ck⟩:=hK 0 k (by rw[hkk];rfl);rw[show ad.add 0=ad by simp[Addr.add]] at ck;have h7:=h15.2.2.2.2.2.2.2.1;rw[hkk] at h7;rw[hP,←h1];exact⟨h15.1,hs.lk.l0,ad,kk,h7,ck⟩
 have HE:Hid (∀ W,LSt Q c w0 W (mark Q S n t 1)→Calls Tryd.prog 24 #[.pointer (some ⟨c.L,0,none⟩),.int .i64 k,.int .i64 t] W (PostLk Q c w0 (.ent k t) (mark Q S n t 1))):=Lib.hid fun W hs=>h.ent' _ (Nat.le_refl _) W k t hs vk (KidI.mark h.kid hs.ok vk.1 (vk.lt h.ctx.tab))
 have HX:=Lib.hid h;have H1:=Lib.hid h1;have HK:=Lib.hid hkk;rw[←hP] at hnP;clear h hl hb hP h1 e1 e2 e3 hc0 hk hkk k0 hy hyp vk;go_enter Tryd.func24,Tryd.ntmps24;go_wp2_with (first | (go_at_call 35;((with_reducible refine(HN.out).mono ?_));rintro e w1 ⟨rfl,hs1⟩;have HS1:=Lib.hid hs1;obtain⟨a0,c0,ad,kk,a7,ck⟩:=HG.out w1 hs1;clear hs1) | (go_at_call 24;((with_reducible refine(HE.out _ HS1.out).mono ?_));rintro e w2 ⟨rfl,S2,hr2,hl2,hb2⟩))
 go_end0
 exact⟨rfl,S2,.ent_cat HX.out.new HX.out.px H1.out HK.out hr2,hl2,hb2⟩
theorem ent_emp_any (h:EntH Q c w0 S n t x DB BB ab vw) (hl:LkC Q c DB BB ab vw w S) (hb:Below c.B w0 w) (h1:x.r.kind=0∨x.r.kind=2):
  Calls Tryd.prog 24 #[.pointer (some ⟨c.L,0,none⟩),.int .i64 n,.int .i64 t] w (PostLk Q c w0 (.ent n t) S):=by
 have HN:=Lib.hid (h.first hl hb);have hnP:n<Q.T.length:=h.vn.1;obtain⟨P,hP⟩:∃ v,v=Q.T.length:=⟨_,rfl⟩;obtain⟨kd,hkd⟩:∃ v,v=x.r.kind:=⟨_,rfl⟩;obtain⟨em,hem⟩:∃ v,v=emptyE Q.B Q.E x.r:=⟨_,rfl⟩;have hm4:=modeN_lt Q.B Q.E;obtain⟨md,hmd⟩:∃ v,v=modeN Q.B Q.E:=⟨_,rfl⟩
 have HG:Hid (∀ W,LSt Q c w0 W (mark Q S n t 1)→W.cell? (c.PA.add (n * 15))=some (.int .i64 kd)∧W.cell? ⟨c.L,0,none⟩=some (.slice (some c.PA) P c.pc)∧W.cell? ⟨c.L,1,none⟩=some (.int .i64 (md:Nat))∧W.cell? ⟨(c.PA.add (n * 15)).block,(c.PA.add (n * 15)).off+11+md,none⟩=some (.bool em)):=Lib.hid fun W hs=>by
  obtain⟨K,kk,h15,_⟩:=h.ctx.part hs.below h.px;rw[hP,hkd,hem,hmd];exact⟨h15.1,hs.lk.l0,hs.lk.l1,at15_empty h15 _ _⟩
 have HF:Hid (∀ W,LSt Q c w0 W (mark Q S n t 1)→Calls Tryd.prog 31 #[.pointer (some ⟨c.L,0,none⟩),.int .i64 n,.int .i64 t] W (PostLk Q c w0 (.fin n t) (mark Q S n t 1))):=Lib.hid fun W hs=>h.fin' _ (Nat.le_refl _) W n t hs h.vn h.kid
 have HX:=Lib.hid h;have H1:=Lib.hid h1;have HEM:=Lib.hid hem;rw[←hP] at hnP;rw[←hmd] at hm4;have b1:(kd==1)=false:=by simp;omega
 have b3:(kd==3)=false:=by simp;omega
 have b6:(kd==6)=false:=by simp;omega
 have b4:(kd==4)=false:=by simp;omega
 have b5:(kd==5)=false:=by simp;omega
 have b7:(kd==7)=false:=by simp;omega
 cases em with
 | true=>
   clear h hl hb hP hkd hmd h1 hem;go_enter Tryd.func24,Tryd.ntmps24;go_wp2_with (go_at_call 35;((with_reducible refine(HN.out).mono ?_));rintro e w1 ⟨rfl,hs1⟩;have HS1:=Lib.hid hs1;obtain⟨a0,c0,c1,ce⟩:=HG.out w1 hs1;clear hs1);go_quiet (fail);go_wp2_with (go_at_call 31;((with_reducible refine(HF.out _ (HS1.out.drews _)).mono ?_));rintro e w2 ⟨rfl,S2,hr2,hl2,hb2⟩)
   go_end0
   exact⟨rfl,S2,.ent_emp HX.out.new HX.out.px H1.out HEM.out.symm hr2,hl2,hb2⟩
 | false=>
   clear h hl hb hP hkd hmd h1 hem;go_enter Tryd.func24,Tryd.ntmps24;go_wp2_with (go_at_call 35;((with_reducible refine(HN.out).mono ?_));rintro e w1 ⟨rfl,hs1⟩;have HS1:=Lib.hid hs1;obtain⟨a0,c0,c1,ce⟩:=HG.out w1 hs1;clear hs1);go_quiet (fail);go_wp2
   go_end0
   exact⟨rfl,_,.ent_not HX.out.new HX.out.px H1.out HEM.out.symm,(HS1.out.drews _).lk,(HS1.out.drews _).below⟩
theorem ent_alt_any (h:EntH Q c w0 S n t x DB BB ab vw) (hl:LkC Q c DB BB ab vw w S) (hb:Below c.B w0 w) (h1:x.r.kind=5∨x.r.kind=7):
  Calls Tryd.prog 24 #[.pointer (some ⟨c.L,0,none⟩),.int .i64 n,.int .i64 t] w (PostLk Q c w0 (.ent n t) S):=by
 have HN:=Lib.hid (h.first hl hb);have hnP:n<Q.T.length:=h.vn.1;obtain⟨P,hP⟩:∃ v,v=Q.T.length:=⟨_,rfl⟩;obtain⟨kd,hkd⟩:∃ v,v=x.r.kind:=⟨_,rfl⟩;obtain⟨p,nx,cc,e1,e2,e3⟩:=h.ctx.tab.ok.nd h.px;have hc0:x.cn=0:=by rw[e1];exact cn_cat (by omega)
 obtain⟨kp1,kp2⟩:=kids_par h.ctx.tab h.px;obtain⟨m,hm⟩:∃ v,v=x.kids.length:=⟨_,rfl⟩;have hm3:m≤1000:=by have:=h.ctx.szs.len;omega
 have HM:=Lib.hid hm
 have HG:Hid (∀ W,LSt Q c w0 W (mark Q S n t 1)→W.cell? (c.PA.add (n * 15))=some (.int .i64 kd)∧W.cell? ⟨c.L,0,none⟩=some (.slice (some c.PA) P c.pc)∧∃ K kk,W.cell? ⟨(c.PA.add (n * 15)).block,(c.PA.add (n * 15)).off+7,none⟩=some (.slice K m kk)∧Hid (IntsAt (Lt c.B) W K x.kids)):=Lib.hid fun W hs=>by
  obtain⟨K,kk,h15,hK⟩:=h.ctx.part hs.below h.px;rw[hP,hkd,hm];exact⟨h15.1,hs.lk.l0,K,kk,h15.2.2.2.2.2.2.2.1,Lib.hid hK⟩
 have HE:Hid (∀ W S1 k,k∈x.kids→LSt Q c w0 W S1→KidI Q S1→left S1≤left (mark Q S n t 1)→VN Q k t∧Calls Tryd.prog 24 #[.pointer (some ⟨c.L,0,none⟩),.int .i64 (k:Nat),.int .i64 t] W (PostLk Q c w0 (.ent k t) S1)):=Lib.hid fun W S1 k hk hs hI hle=>by
  obtain⟨k0,y,hy,hyp⟩:=kp1 k hk;have vk:VN Q k t:=h.vn.kid h.px hc0 hy k0 hyp;exact⟨vk,h.ent' _ hle W k t hs vk (KidI.mark hI hs.ok vk.1 (vk.lt h.ctx.tab))⟩
 have HX:=Lib.hid h;have H1:=Lib.hid h1;rw[←hP] at hnP
 have main:∀ (kd':Int),kd=kd'→(kd'=5∨kd'=7)→Calls Tryd.prog 24 #[.pointer (some ⟨c.L,0,none⟩),.int .i64 n,.int .i64 t] w (PostLk Q c w0 (.ent n t) S):=by
  intro kd' hkd' hor;clear h hl hb hP h1 e1 e2 e3 hc0 kp1 kp2 hm hkd
  rcases hor with rfl | rfl <;> subst hkd'
  all_goals
   go_enter Tryd.func24,Tryd.ntmps24;go_wp2_with (go_at_call 35;((with_reducible refine(HN.out).mono ?_));rintro e w1 ⟨rfl,hs1⟩;have HS1:=Lib.hid hs1;obtain⟨a0,c0,K,kk,a7,hK⟩:=HG.out w1 hs1;clear hs1)
   go_loopw [100] (fun i wr=>LoopK2 Q c w0 (mark Q S n t 1) t x.kids i wr) (fun i _=>m - (intOf i).toNat)
   case atStart=>exact⟨0,_,Nat.zero_le _,rfl,fun _ h=>h,HS1.out,HX.out.kid,Nat.le_refl _⟩
   case round=>
    obtain⟨j,S1,hj,rfl,hrun,hs1,hi1,hle⟩:=hrel;have HRUN:=Lib.hid hrun;have HSR:=Lib.hid hs1;have HI1:=Lib.hid hi1;have HLE:=Lib.hid hle;clear hrun hs1 hi1 hle a0 c0 a7;by_cases a:j<m
    ·obtain⟨k,hk⟩:=get_of_lt HM.out a
     obtain⟨ad,rfl,had,ck⟩:=hK.out j k hk;have ckr:wr.cell? (ad.add j)=some (.int .i64 (k:Nat)):=((HSR.out.below.cell (by rw[block_of_add];exact had)).trans (HS1.out.below.cell (by rw[block_of_add];exact had)).symm).trans ck;have HKM:=Lib.hid hk;have HA:=Lib.hid a;obtain⟨hv1,hcall⟩:=HE.out wr S1 k (List.mem_of_getElem? hk) HSR.out HI1.out HLE.out;have HC:=Lib.hid hcall;have HNX:Hid (∀ S2,Run Q (.ent k t) S1 S2→OkS Q S2∧KidI Q S2∧Sml S2∧left S2≤left S1):=Lib.hid fun S2 hr=>run_after HX.out.ctx.tab hr hv1 HSR.out.ok (KidI.mark HI1.out HSR.out.ok hv1.1 (hv1.lt HX.out.ctx.tab)) HSR.out.sml
     clear hk had ck hv1 hcall;go_wp2_with (go_at_call 24;((with_reducible refine(HC.out).mono ?_));rintro e w2 ⟨rfl,S2,hr2,hl2,hb2⟩)
     go_roundw
     case rel=>
      obtain⟨o1,o2,o3,o4⟩:=HNX.out S2 hr2;exact⟨j+1,S2,by have:=HM.out;have:=HA.out;omega,by go_num,fun S' h=>HRUN.out S' (by rw[drop_cons' HKM.out];exact .ents_cons hr2 h),⟨hb2,hl2,o1,o3⟩,o2,by have:=HLE.out;omega⟩
     case measure=>have:=HA.out;simp[intOf];omega
    ·have hje:j=x.kids.length:=by have:=HM.out;omega
     have HJE:=Lib.hid hje;clear hje;go_wp2
     go_end0
     exact⟨rfl,S1,.ent_alt HX.out.new HX.out.px H1.out (HRUN.out S1 (by rw[HJE.out,List.drop_length];exact .ents_nil)),HSR.out.lk,HSR.out.below⟩
 exact main kd rfl (by omega)
end
end
section
structure FinH (Q:Pm) (c:LkP) (w0 w:World) (S:LS) (n t:Nat):Prop where
 ctx:Ctx Q c w0
 st:LSt Q c w0 w S
 vn:VN Q n t
 kid:KidI Q S
 new:¬ has Q S n t 2
 ent:∀ S',left S'<left S→EntAt Q c w0 S'
 fin:∀ S',left S'<left S→FinAt Q c w0 S'
section
variable {Q:Pm} {c:LkP} {w0 w:World} {S:LS} {n t:Nat}
theorem FinH.less (h:FinH Q c w0 w S n t):left (mark Q S n t 2)<left S:=did_less h.st.ok h.st.sml h.vn.1 (h.vn.lt h.ctx.tab) (.inr rfl) h.new
theorem FinH.ent' (h:FinH Q c w0 w S n t):∀ S',left S'≤left (mark Q S n t 2)→EntAt Q c w0 S':=fun S' hs=>h.ent S' (by have:=h.less;omega)
theorem FinH.fin' (h:FinH Q c w0 w S n t):∀ S',left S'≤left (mark Q S n t 2)→FinAt Q c w0 S':=fun S' hs=>h.fin S' (by have:=h.less;omega)
theorem FinH.kid' (h:FinH Q c w0 w S n t):KidI Q (mark Q S n t 2):=KidI.mark h.kid h.st.ok h.vn.1 (h.vn.lt h.ctx.tab)
theorem FinH.first(h:FinH Q c w0 w S n t):
  Calls Tryd.prog 35 #[.pointer (some ⟨c.L,0,none⟩),.int .i64 n,.int .i64 t,.int .u8 2] w fun e w'=>e= .returned (.bool true)∧LSt Q c w0 w' (mark Q S n t 2):=by
 obtain⟨DB,BB,ab,vw,hl⟩:=h.st.lk;refine(isnew_new hl h.st.ok h.st.sml h.ctx.szs h.vn.1 (h.vn.lt h.ctx.tab) (wh:=2) (.inr rfl) h.new).mono fun _ _ ⟨h1,h2,h3⟩=>⟨h1,⟨h.st.below.trans h3,⟨DB,BB,ab,vw,h2⟩,h.st.ok.mark _ _ _,(did_mark Q h.st.sml n t (.inr rfl)).sml⟩⟩
theorem fin_old_any (hc:Ctx Q c w0) (hs:LSt Q c w0 w S) (hv:VN Q n t) (hh:has Q S n t 2):
  Calls Tryd.prog 31 #[.pointer (some ⟨c.L,0,none⟩),.int .i64 n,.int .i64 t] w (PostLk Q c w0 (.fin n t) S):=by
 obtain⟨DB,BB,ab,vw,hl⟩:=hs.lk;have HN:Hid (Calls Tryd.prog 35 #[.pointer (some ⟨c.L,0,none⟩),.int .i64 n,.int .i64 t,.int .u8 2] w fun e w'=>e= .returned (.bool false)∧∃ m,w'=w.drewN m):=Lib.hid (isnew_old hl hs.ok hs.sml hc.szs hv.1 (hv.lt hc.tab) (wh:=2) (.inr rfl) hh);have HE:Hid (∀ m,PostLk Q c w0 (.fin n t) S (.returned (.tuple #[])) (w.drewN m)):=Lib.hid fun m=>⟨rfl,S,.fin_old hh,hs.lk.drews m,hs.below.trans (below_dn _ _ _)⟩
 clear hc hs hv hh hl;go_enter Tryd.func31,Tryd.ntmps31;go_wp2_with (go_at_call 35;((with_reducible refine(HN.out).mono ?_));rintro e w1 ⟨rfl,m,rfl⟩)
 go_end0
 exact HE.out _
theorem Lk.over {W:World} (h:LSt Q c w0 W S):W.cell? ⟨c.L,6,none⟩=some (.bool S.over)∧W.frozen? ⟨c.L,6,none⟩=false∧Lk Q c (W.setCell ⟨c.L,6,none⟩ (.bool true)) (ends S)∧Below c.B w0 (W.setCell ⟨c.L,6,none⟩ (.bool true)):=by
 obtain⟨DB,BB,ab,vw,hl⟩:=h.lk;exact⟨hl.c6,hl.f 6,⟨DB,BB,ab,vw,hl.end_⟩,h.below.setCell hl.b1.1 _⟩
theorem fin_root_any {t:Nat} (h:FinH Q c w0 w S 0 t):
  Calls Tryd.prog 31 #[.pointer (some ⟨c.L,0,none⟩),.int .i64 (0:Nat),.int .i64 t] w (PostLk Q c w0 (.fin 0 t) S):=by
 have HN:Hid (Calls Tryd.prog 35 #[.pointer (some ⟨c.L,0,none⟩),.int .i64 0,.int .i64 t,.int .u8 2] w fun e w'=>e= .returned (.bool true)∧LSt Q c w0 w' (mark Q S 0 t 2)):=Lib.hid h.first
 have HX:=Lib.hid h;have hm:(mark Q S 0 t 2).over=S.over:=rfl;obtain⟨ov,hov⟩:∃ v,v=(mark Q S 0 t 2).over:=⟨_,rfl⟩;have HO:=Lib.hid hov;clear h hm hov;go_enter Tryd.func31,Tryd.ntmps31;go_wp2_with (go_at_call 35;((with_reducible refine(HN.out).mono ?_));rintro e w1 ⟨rfl,hs1⟩;obtain⟨c6,f6,hl6,hb6⟩:=Lk.over hs1;rw[←HO.out] at c6;have HL6:=Lib.hid hl6;have HB6:=Lib.hid hb6;clear hs1 hl6 hb6)
 go_end0
 exact⟨rfl,_,.fin_root HX.out.new,HL6.out,HB6.out⟩
theorem fin_more_any (h:FinH Q c w0 w S n t) (hn:n≠0):
  Calls Tryd.prog 31 #[.pointer (some ⟨c.L,0,none⟩),.int .i64 n,.int .i64 t] w (PostLk Q c w0 (.fin n t) S):=by
 have HN:=Lib.hid h.first
 obtain⟨x,hx⟩:∃ x,Q.T[n]?=some x:=⟨_,List.getElem?_eq_getElem h.vn.1⟩;obtain⟨p,hp,_,hpn,hpc⟩:=h.ctx.tab.ok.par n x hn hx;have hnP:n<Q.T.length:=h.vn.1;have hpP:x.par<Q.T.length:=(List.getElem?_eq_some_iff.1 hp).1;obtain⟨P,hP⟩:∃ v,v=Q.T.length:=⟨_,rfl⟩;obtain⟨nx,hnx⟩:∃ v,v=x.nx:=⟨_,rfl⟩;obtain⟨pa,hpa⟩:∃ v,v=x.par:=⟨_,rfl⟩;obtain⟨cn,hcn⟩:∃ v,v=p.cn:=⟨_,rfl⟩;obtain⟨kd,hkd⟩:∃ v,v=p.r.kind:=⟨_,rfl⟩;obtain⟨hi,hhi⟩:∃ v,v=p.r.hi:=⟨_,rfl⟩
 have HG:Hid (∀ W S',Below c.B w0 W→Lk Q c W S'→W.cell? ⟨c.L,0,none⟩=some (.slice (some c.PA) P c.pc)∧W.cell? ⟨(c.PA.add (n * 15)).block,(c.PA.add (n * 15)).off+8,none⟩=some (.int .i64 (pa:Nat))∧W.cell? ⟨(c.PA.add (n * 15)).block,(c.PA.add (n * 15)).off+9,none⟩=some (.int .i64 (nx:Nat))∧
   W.cell? (c.PA.add (pa * 15))=some (.int .i64 kd)∧W.cell? ⟨(c.PA.add (pa * 15)).block,(c.PA.add (pa * 15)).off+6,none⟩=some (.int .i64 hi)∧W.cell? ⟨(c.PA.add (pa * 15)).block,(c.PA.add (pa * 15)).off+10,none⟩=some (.int .i64 (cn:Nat))):=Lib.hid fun W S' hb hl=>by
  obtain⟨K,kk,h15,_⟩:=h.ctx.part hb hx;obtain⟨K2,kk2,h15',_⟩:=h.ctx.part hb hp;rw[hP,hpa,hnx,hkd,hhi,hcn];exact⟨hl.l0,h15.2.2.2.2.2.2.2.2.1,h15.2.2.2.2.2.2.2.2.2.1,h15'.1,h15'.2.2.2.2.2.2.1,h15'.2.2.2.2.2.2.2.2.2.2.1⟩
 have HE:Hid (∀ W,LSt Q c w0 W (mark Q S n t 2)→nx≠0→Calls Tryd.prog 24 #[.pointer (some ⟨c.L,0,none⟩),.int .i64 (nx:Nat),.int .i64 t] W (PostLk Q c w0 (.ent nx t) (mark Q S n t 2))):=Lib.hid fun W hs hne=>by
  rw[hnx] at hne ⊢;obtain⟨y,y1,y2⟩:=h.ctx.tab.nxt _ _ hx hne;have hnz:x.nx≠0:=hne;have hv':VN Q x.nx t:=h.vn.sib hx y1 hnz y2;exact h.ent' _ (Nat.le_refl _) W x.nx t hs hv' (KidI.mark h.kid' hs.ok hv'.1 (hv'.lt h.ctx.tab))
 have HT:Hid (∀ W,LSt Q c w0 W (mark Q S n t 2)→cn≠0→Calls Tryd.prog 41 #[.pointer (some ⟨c.L,0,none⟩),.int .i64 (pa:Nat),.int .i64 t] W (PostLk Q c w0 (.ftn pa t) (mark Q S n t 2))):=Lib.hid fun W hs hne=>by
  rw[hpa];exact ftn_any h.ctx hs h.kid' h.ent' h.fin' hp (by rw[←hcn];exact hne)
 have HF:Hid (∀ W,LSt Q c w0 W (mark Q S n t 2)→cn=0→Calls Tryd.prog 31 #[.pointer (some ⟨c.L,0,none⟩),.int .i64 (pa:Nat),.int .i64 t] W (PostLk Q c w0 (.fin pa t) (mark Q S n t 2))):=Lib.hid fun W hs hz=>by
  rw[hpa];exact h.fin' _ (Nat.le_refl _) W x.par t hs (h.vn.up hx hp (by omega)) h.kid'
 have HE2:Hid (∀ W S1,cn=0→Run Q (.fin pa t) (mark Q S n t 2) S1→Below c.B w0 W→Lk Q c W S1→Calls Tryd.prog 24 #[.pointer (some ⟨c.L,0,none⟩),.int .i64 n,.int .i64 t] W (PostLk Q c w0 (.ent n t) S1)):=Lib.hid fun W S1 hz hr hb hl=>by
  rw[hpa] at hr;have o0:OkS Q (mark Q S n t 2):=h.st.ok.mark _ _ _;have s0:Sml (mark Q S n t 2):=(did_mark Q h.st.sml n t (.inr rfl)).sml;obtain⟨o1,o2,o3,o4⟩:=run_after h.ctx.tab hr (h.vn.up hx hp (by omega)) o0 h.kid' s0;exact h.ent' S1 o4 W n t ⟨hb,hl,o1,o3⟩ h.vn (KidI.mark o2 o1 h.vn.1 (h.vn.lt h.ctx.tab))
 have H1:Hid (∀ S',nx≠0→Run Q (.ent nx t) (mark Q S n t 2) S'→Run Q (.fin n t) S S'):=Lib.hid fun S' hne hr=> .fin_next h.new hn hx (by rw[←hnx];exact hne) (by rw[←hnx];exact hr)
 have H2:Hid (∀ S',nx=0→cn≠0→Run Q (.ftn pa t) (mark Q S n t 2) S'→Run Q (.fin n t) S S'):=Lib.hid fun S' hz hne hr=> .fin_cnt h.new hn hx (by rw[←hnx];exact hz) hp (by rw[←hcn];exact hne) (by rw[←hpa];exact hr)
 have H3:Hid (∀ S1 S',nx=0→cn=0→Run Q (.fin pa t) (mark Q S n t 2) S1→(kd=6∧hi<0→Run Q (.ent n t) S1 S')→(¬ (kd=6∧hi<0)→S'=S1)→Run Q (.fin n t) S S'):=Lib.hid fun S1 S' hz hc hr g1 g2=>
  .fin_up h.new hn hx (by rw[←hnx];exact hz) hp (by rw[←hcn];exact hc) (by rw[←hpa];exact hr) (by rw[←hkd,←hhi];exact g1) (by rw[←hkd,←hhi];exact g2)
 rw[←hP] at hnP hpP;rw[←hpa] at hpP;have b0:((n:Int)==0)=false:=by simp;omega
 have b0':(n==0)=false:=by simp;omega
 have hnz:nx=0∨nx≠0:=by omega
 rcases hnz with hnz | hnz
 ·subst hnz
  have hcz:cn=0∨cn≠0:=by omega
  rcases hcz with hcz | hcz
  ·subst hcz
   by_cases hk6:kd=6
   ·by_cases hh0:hi<0
    ·have HK:Hid (kd=6∧hi<0):=Lib.hid ⟨hk6,hh0⟩
     have b1:(kd==6)=true:=by simp[hk6]
     have b2:decide (hi<0)=true:=by simp[hh0]
     clear h hx hp hpn hpc hP hnx hpa hcn hkd hhi hn hk6 hh0;go_enter Tryd.func31,Tryd.ntmps31;go_wp2_with (go_at_call 35;((with_reducible refine(HN.out).mono ?_));rintro e w1 ⟨rfl,hs1⟩;have HS1:=Lib.hid hs1;obtain⟨c0,a8,a9,k0,k6,k10⟩:=HG.out w1 _ hs1.below hs1.lk;clear hs1);go_quiet (fail);go_wp2_with (first | (go_at_call 31;((with_reducible refine(HF.out _ (HS1.out.drews _) (by trivial)).mono ?_));rintro e w2 ⟨rfl,S2,hr2,hl2,hb2⟩;have HR2:=Lib.hid hr2;have HL2:=Lib.hid hl2;have HB2:=Lib.hid hb2;obtain⟨_,a8',a9',k0',k6',k10'⟩:=HG.out w2 _ hb2 hl2;clear hr2 hl2 hb2) | (go_at_call 24;((with_reducible refine(HE2.out _ _ (by trivial) HR2.out HB2.out HL2.out).mono ?_));rintro e w3 ⟨rfl,S3,hr3,hl3,hb3⟩))
     go_end0
     exact⟨rfl,S3,H3.out S2 S3 (by trivial) (by trivial) HR2.out (fun _=>hr3) (fun q=>absurd HK.out q),hl3,hb3⟩
    ·have HK:Hid (¬ (kd=6∧hi<0)):=Lib.hid fun q=>hh0 q.2
     have b1:(kd==6)=true:=by simp[hk6]
     have b2:decide (hi<0)=false:=by simp;omega
     clear h hx hp hpn hpc hP hnx hpa hcn hkd hhi hn hk6 hh0;go_enter Tryd.func31,Tryd.ntmps31;go_wp2_with (go_at_call 35;((with_reducible refine(HN.out).mono ?_));rintro e w1 ⟨rfl,hs1⟩;have HS1:=Lib.hid hs1;obtain⟨c0,a8,a9,k0,k6,k10⟩:=HG.out w1 _ hs1.below hs1.lk;clear hs1);go_quiet (fail);go_wp2_with (go_at_call 31;((with_reducible refine(HF.out _ (HS1.out.drews _) (by trivial)).mono ?_));rintro e w2 ⟨rfl,S2,hr2,hl2,hb2⟩;have HR2:=Lib.hid hr2;have HL2:=Lib.hid hl2;have HB2:=Lib.hid hb2;obtain⟨_,a8',a9',k0',k6',k10'⟩:=HG.out w2 _ hb2 hl2;clear hr2 hl2 hb2)
     go_end0
     exact⟨rfl,S2,H3.out S2 S2 (by trivial) (by trivial) HR2.out (fun q=>absurd q HK.out) (fun _=>rfl),HL2.out,HB2.out⟩
   ·have HK:Hid (¬ (kd=6∧hi<0)):=Lib.hid fun q=>hk6 q.1
    have b1:(kd==6)=false:=by simp[hk6]
    clear h hx hp hpn hpc hP hnx hpa hcn hkd hhi hn hk6;go_enter Tryd.func31,Tryd.ntmps31;go_wp2_with (go_at_call 35;((with_reducible refine(HN.out).mono ?_));rintro e w1 ⟨rfl,hs1⟩;have HS1:=Lib.hid hs1;obtain⟨c0,a8,a9,k0,k6,k10⟩:=HG.out w1 _ hs1.below hs1.lk;clear hs1);go_quiet (fail);go_wp2_with (go_at_call 31;((with_reducible refine(HF.out _ (HS1.out.drews _) (by trivial)).mono ?_));rintro e w2 ⟨rfl,S2,hr2,hl2,hb2⟩;have HR2:=Lib.hid hr2;have HL2:=Lib.hid hl2;have HB2:=Lib.hid hb2;obtain⟨_,a8',a9',k0',k6',k10'⟩:=HG.out w2 _ hb2 hl2;clear hr2 hl2 hb2)
    go_end0
    exact⟨rfl,S2,H3.out S2 S2 (by trivial) (by trivial) HR2.out (fun q=>absurd q HK.out) (fun _=>rfl),HL2.out,HB2.out⟩
  ·have HC:=Lib.hid hcz
   have b1:decide (0<(cn:Int))=true:=by simp;omega
   have b1':decide (0<cn)=true:=by simp;omega
   clear h hx hp hpn hpc hP hnx hpa hcn hkd hhi hn hcz;go_enter Tryd.func31,Tryd.ntmps31;go_wp2_with (go_at_call 35;((with_reducible refine(HN.out).mono ?_));rintro e w1 ⟨rfl,hs1⟩;have HS1:=Lib.hid hs1;obtain⟨c0,a8,a9,k0,k6,k10⟩:=HG.out w1 _ hs1.below hs1.lk;clear hs1);go_quiet (fail);go_wp2_with (go_at_call 41;((with_reducible refine(HT.out _ (HS1.out.drews _) HC.out).mono ?_));rintro e w2 ⟨rfl,S2,hr2,hl2,hb2⟩)
   go_end0
   exact⟨rfl,S2,H2.out S2 (by trivial) HC.out hr2,hl2,hb2⟩
 ·have HZ:=Lib.hid hnz
  have b1:((nx:Int)==0)=false:=by simp;omega
  have b1':(nx==0)=false:=by simp;omega
  clear h hx hp hpn hpc hP hnx hpa hcn hkd hhi hn hnz;go_enter Tryd.func31,Tryd.ntmps31;go_wp2_with (go_at_call 35;((with_reducible refine(HN.out).mono ?_));rintro e w1 ⟨rfl,hs1⟩;have HS1:=Lib.hid hs1;obtain⟨c0,a8,a9,k0,k6,k10⟩:=HG.out w1 _ hs1.below hs1.lk;clear hs1);go_quiet (fail);go_wp2_with (go_at_call 24;((with_reducible refine(HE.out _ (HS1.out.drews _) HZ.out).mono ?_));rintro e w2 ⟨rfl,S2,hr2,hl2,hb2⟩)
  go_end0
  exact⟨rfl,S2,H1.out S2 HZ.out hr2,hl2,hb2⟩
end
theorem all_at {Q:Pm} {c:LkP} {w0:World} (hc:Ctx Q c w0):∀ (f:Nat) (S:LS),left S<f→EntAt Q c w0 S∧FinAt Q c w0 S
 | 0,_,h=>by omega
 | f+1,S,h=>by
   have ih:=all_at hc f;have hE:∀ S',left S'<left S→EntAt Q c w0 S':=fun S' hs=>(ih S' (by omega)).1
   have hF:∀ S',left S'<left S→FinAt Q c w0 S':=fun S' hs=>(ih S' (by omega)).2
   constructor
   ·intro w n t hs hv hk
    by_cases hh:has Q S n t 1
    ·exact ent_old_any hc hs hv hh
    ·obtain⟨x,hx⟩:∃ x,Q.T[n]?=some x:=⟨_,List.getElem?_eq_getElem hv.1⟩
     obtain⟨DB,BB,ab,vw,hl⟩:=hs.lk;have H:EntH Q c w0 S n t x DB BB ab vw:=⟨hc,hs.ok,hs.sml,hv,hk,hh,hx,hE,hF⟩;obtain⟨_,_,_,_,_,hfine⟩:=hc.tab.ok.nd hx
     rcases hfine.cases with ⟨h0,_⟩ | ⟨h0,_⟩ | ⟨h0,_⟩ | ⟨h0,_⟩ | ⟨h0,_⟩ | ⟨h0,_⟩ | ⟨h0,_⟩ | ⟨h0,_⟩
     ·exact ent_emp_any H hl hs.below (.inl h0)
     ·exact ent_set_any H hl hs.below (.inl h0)
     ·exact ent_emp_any H hl hs.below (.inr h0)
     ·cases he:Q.E with
      | false=>exact ent_set_any H hl hs.below (.inr ⟨h0,he⟩)
      | true=>exact ent_one_any H hl hs.below (.inl ⟨h0,he⟩)
     ·exact ent_cat_any H hl hs.below h0
     ·exact ent_alt_any H hl hs.below (.inl h0)
     ·exact ent_one_any H hl hs.below (.inr h0)
     ·exact ent_alt_any H hl hs.below (.inr h0)
   ·intro w n t hs hv hk
    by_cases hh:has Q S n t 2
    ·exact fin_old_any hc hs hv hh
    ·have H:FinH Q c w0 w S n t:=⟨hc,hs,hv,hk,hh,hE,hF⟩
     by_cases hn:n=0
     ·subst hn;exact fin_root_any H
     ·exact fin_more_any H hn
theorem enter_any {Q:Pm} {c:LkP} {w0 w:World} {S:LS} {n t:Nat} (hc:Ctx Q c w0) (hs:LSt Q c w0 w S) (hv:VN Q n t) (hk:KidI Q (mark Q S n t 1)):
 Calls Tryd.prog 24 #[.pointer (some ⟨c.L,0,none⟩),.int .i64 n,.int .i64 t] w (PostLk Q c w0 (.ent n t) S):=(all_at hc (left S+1) S (by omega)).1 w n t hs hv hk
theorem finish_any {Q:Pm} {c:LkP} {w0 w:World} {S:LS} {n t:Nat} (hc:Ctx Q c w0) (hs:LSt Q c w0 w S) (hv:VN Q n t) (hk:KidI Q S):
 Calls Tryd.prog 31 #[.pointer (some ⟨c.L,0,none⟩),.int .i64 n,.int .i64 t] w (PostLk Q c w0 (.fin n t) S):=(all_at hc (left S+1) S (by omega)).2 w n t hs hv hk
end
theorem at15_word {w:World} {a:Addr} {x:Nd} {K:Option Addr} {k:Nat} (h:At15 w a x K k) {q:Nat} (hq:q<4):w.cell? ⟨a.block,a.off+1+q,none⟩=some (.int .u64 (wd x.r.set q).toNat):=by
 obtain⟨_,a1,a2,a3,a4,_⟩:=h;have h:q=0∨q=1∨q=2∨q=3:=by omega
 rcases h with rfl | rfl | rfl | rfl
 ·exact a1
 ·exact a2
 ·exact a3
 ·exact a4
theorem parthas_any (a:Addr) (x:Nd) (K:Option Addr) (k:Nat) (w:World) (c:Nat) (hc:c<256) (h:At15 w a x K k):
  Calls Tryd.prog 30 #[.pointer (some a),.int .u8 c] w fun e w'=>e= .returned (.bool (mem x.r.set c))∧w'=w:=by
 have hq:c / 64<4:=by omega
 have h0:=at15_word h hq;obtain⟨y,hy⟩:∃ y,y=(wd x.r.set (c / 64)).toNat:=⟨_,rfl⟩;rw[←hy] at h0;have hyl:y<18446744073709551616:=by rw[hy];exact UInt64.toNat_lt _
 obtain⟨q,hq2⟩:∃ q,q=c / 64:=⟨_,rfl⟩;obtain⟨m,hm2⟩:∃ m,m=c % 64:=⟨_,rfl⟩;rw[←hq2] at h0 hq;have e1:(c:Int) / 64=(q:Int):=by omega
 have e2:(c:Int) % 64=(m:Int):=by omega
 have hm:m<64:=by omega
 obtain⟨t,ht⟩:∃ t:Nat,t=if y.testBit m then 1 else 0:=⟨_,rfl⟩
 have e3:=bit_and y m hyl ht
 have hv:mem x.r.set c=(t != 0):=by
  unfold mem;rw[ht,hm2,hy]
  cases (wd x.r.set (c / 64)).toNat.testBit (c % 64) <;> rfl
 rw[hv];clear hv ht h hq2 hm2 hy;go_enter Tryd.func30,Tryd.ntmps30;go_wp2;go_ret;exact⟨ret_bool (by cases ht2:(t != 0) <;> simp at ht2 ⊢ <;> omega),rfl⟩
structure MacC (w:World) (b:Nat) (PA:Addr) (P pc C:Nat) (vw:Value) (TA:Addr) (old tp md:Nat) (ov:Bool):Prop where
 c0:w.cell? ⟨b,0,none⟩=some (.slice (some PA) P pc)
 c1:w.cell? ⟨b,1,none⟩=some (.int .i64 C)
 c2:w.cell? ⟨b,2,none⟩=some vw
 c3:w.cell? ⟨b,3,none⟩=some (.slice (some TA) old tp)
 c4:w.cell? ⟨b,4,none⟩=some (.int .i64 md)
 c5:w.cell? ⟨b,5,none⟩=some (.bool ov)
 f:∀ j,w.frozen? ⟨b,j,none⟩=false
theorem info117:(Tryd.prog.info? 117).map (fun i=>(i.zero,i.size,i.bytes))=some (some (.slice none 0 0),1,24):=by kernel_rfl
theorem row_free {W:World} {b T:Nat} {cs:Array Value} (h:W.heap[b]?=some (.cells cs T)) (j:Nat):W.frozen? ⟨b,j,none⟩=false:=by unfold World.frozen?;rw[h];simp
theorem row_cell {W:World} {b T:Nat} {cs:Array Value} (h:W.heap[b]?=some (.cells cs T)) (j:Nat):W.cell? ⟨b,j,none⟩=cs[j]?:=cell_of_row _ _ j cs T (0,0) h
theorem made_at {z:Value} {n t:Nat} (ht:t<n):(madeCells #[z] n)[t]?=some z:=by rw[←Array.getElem?_toList];exact made_get ht
theorem lk_made {Q:Pm} {W:World} {PA TA:Addr} {pc tp B L BB DB:Nat} (h1:W.heap[BB]?=some (.cells (madeCells #[.slice none 0 0] Q.C) 117)) (h2:W.heap[DB]?=some (.cells (madeCells #[.int .u8 0] (Q.all * Q.T.length)) 5))
  (h3:W.heap[L]?=some (.cells #[.slice (some PA) Q.T.length pc,.int .i64 (modeN Q.B Q.E:Nat),.slice (some TA) Q.old tp,.slice (some ⟨BB,0,none⟩) Q.C Q.C,.slice (some ⟨DB,0,none⟩) (Q.all * Q.T.length) (Q.all * Q.T.length),.slice none 0 0,.bool false] 72))
  (hB:B≤BB∧B≤DB∧B≤L∧L≠DB∧L≠BB∧DB≠BB):Lk Q ⟨B,L,PA,pc,TA,tp⟩ W (S0 Q):=by
 obtain⟨b1,b2,b3,b4,b5,b6⟩:=hB;have l:=row_cell h3;refine⟨DB,BB,fun _=>0,.slice none 0 0,(l 0).trans rfl,(l 1).trans rfl,(l 2).trans rfl,(l 3).trans rfl,(l 4).trans rfl,(l 5).trans rfl,(l 6).trans rfl,row_free h3,?_,row_free h2,?_,row_free h1,?_,?_,World.ownsRow_nil _ _ _ _,⟨b3,b2,b1,b4,b5,b6⟩,⟨by simp[Value.ownBlock],by simp[Value.ownBlock],by simp[Value.ownBlock]⟩,?_⟩
 ·intro i x hx
  unfold S0 at hx;simp only[List.getElem?_replicate] at hx
  split at hx
  ·rename_i hi
   injection hx with hx;subst hx
   rw[row_cell h2,made_at hi];rfl
  ·cases hx
 ·intro k arr hx
  unfold S0 at hx;simp only[List.getElem?_replicate] at hx
  split at hx
  ·rename_i hi
   injection hx with hx;subst hx
   rw[row_cell h1,made_at hi];rfl
  ·cases hx
 ·intro k arr hx hne
  unfold S0 at hx;simp only[List.getElem?_replicate] at hx
  split at hx
  ·injection hx with hx;exact absurd hx.symm hne
  ·cases hx
 ·intro k k' a a' hx _ hne
  unfold S0 at hx;simp only[List.getElem?_replicate] at hx
  split at hx
  ·injection hx with hx;exact absurd hx.symm hne
  ·cases hx
 ·exact⟨(Array.getElem?_eq_some_iff.1 h3).1,(Array.getElem?_eq_some_iff.1 h2).1,(Array.getElem?_eq_some_iff.1 h1).1⟩
theorem heap3 (w:World) (m:Nat) (o1 o2 o3:Obj):((((w.drewN m).alloc o1).alloc o2).alloc o3).heap[w.heap.size]?=some o1∧((((w.drewN m).alloc o1).alloc o2).alloc o3).heap[w.heap.size+1]?=some o2∧((((w.drewN m).alloc o1).alloc o2).alloc o3).heap[w.heap.size+2]?=some o3:=by
 have e1:=heap_alloc_new (w.drewN m) o1;have e2:=heap_alloc_new ((w.drewN m).alloc o1) o2;have e3:=heap_alloc_new (((w.drewN m).alloc o1).alloc o2) o3;have s0:(w.drewN m).heap.size=w.heap.size:=rfl;have s1:((w.drewN m).alloc o1).heap.size=w.heap.size+1:=by simp
 have s2:(((w.drewN m).alloc o1).alloc o2).heap.size=w.heap.size+2:=by simp
 rw[s0] at e1;rw[s1] at e2;rw[s2] at e3;refine⟨?_,?_,e3⟩
 ·rw[Below.heap_alloc _ _ _ (by omega),Below.heap_alloc _ _ _ (by omega)];exact e1
 ·rw[Below.heap_alloc _ _ _ (by omega)];exact e2
theorem look_any {Q:Pm} {w:World} {b pc tp md:Nat} {PA TA:Addr} {vw:Value} {ov:Bool} (h:MacC w b PA Q.T.length pc Q.C vw TA Q.old tp md ov) (hz:Szs Q) (hC:Q.C≤Q.all):
  Calls Tryd.prog 23 #[.pointer (some ⟨b,0,none⟩),.int .i64 (modeN Q.B Q.E:Nat)] w fun e w'=>∃ L,e= .returned (.pointer (some ⟨L,0,none⟩))∧Lk Q ⟨w.heap.size,L,PA,pc,TA,tp⟩ w' (S0 Q)∧Below w.heap.size w w':=by
 have hb1:=World.block_lt_of_cell? w _ h.c0;have al:∀ m o j,((w.drewN m).alloc o).cell? ⟨b,j,none⟩=w.cell? ⟨b,j,none⟩:=fun m o j=>((below_dn w.heap.size w m).alloc (Nat.le_refl _) o).cell (p:=⟨b,j,none⟩) hb1
 have al2:∀ m o o' j,(((w.drewN m).alloc o).alloc o').cell? ⟨b,j,none⟩=w.cell? ⟨b,j,none⟩:=fun m o o' j=>(((below_dn w.heap.size w m).alloc (Nat.le_refl _) o).alloc (by simp) o').cell (p:=⟨b,j,none⟩) hb1
 have c0:=h.c0;have c1:=h.c1;have c3:=h.c3
 have HE1:Hid (∀ m,∃ L,Ending.returned (.pointer (some ⟨w.heap.size+2,0,none⟩))= .returned (.pointer (some ⟨L,0,none⟩))∧Lk Q ⟨w.heap.size,L,PA,pc,TA,tp⟩ ((((w.drewN m).alloc (.cells (madeCells #[.slice none 0 0] Q.C) 117)).alloc (.cells (madeCells #[.int .u8 0] (Q.all * Q.T.length)) 5)).alloc (.cells #[.slice (some PA) Q.T.length pc,.int .i64 (modeN Q.B Q.E:Nat),.slice (some TA) Q.old tp,.slice (some ⟨w.heap.size,0,none⟩) Q.C Q.C,.slice (some ⟨w.heap.size+1,0,none⟩) (Q.all * Q.T.length) (Q.all * Q.T.length),.slice none 0 0,.bool false] 72)) (S0 Q)∧
   Below w.heap.size w ((((w.drewN m).alloc (.cells (madeCells #[.slice none 0 0] Q.C) 117)).alloc (.cells (madeCells #[.int .u8 0] (Q.all * Q.T.length)) 5)).alloc (.cells #[.slice (some PA) Q.T.length pc,.int .i64 (modeN Q.B Q.E:Nat),.slice (some TA) Q.old tp,.slice (some ⟨w.heap.size,0,none⟩) Q.C Q.C,.slice (some ⟨w.heap.size+1,0,none⟩) (Q.all * Q.T.length) (Q.all * Q.T.length),.slice none 0 0,.bool false] 72))):=Lib.hid fun m=>by
  obtain⟨q1,q2,q3⟩:=heap3 w m (.cells (madeCells #[.slice none 0 0] Q.C) 117) (.cells (madeCells #[.int .u8 0] (Q.all * Q.T.length)) 5) (.cells #[.slice (some PA) Q.T.length pc,.int .i64 (modeN Q.B Q.E:Nat),.slice (some TA) Q.old tp,.slice (some ⟨w.heap.size,0,none⟩) Q.C Q.C,.slice (some ⟨w.heap.size+1,0,none⟩) (Q.all * Q.T.length) (Q.all * Q.T.length),.slice none 0 0,.bool false] 72);exact⟨_,rfl,lk_made q1 q2 q3 (by omega),((((below_dn w.heap.size w m).alloc (Nat.le_refl _) _).alloc (by simp) _).alloc (by simp;omega) _)⟩
 have HE2:Hid (∀ m,∃ L,Ending.returned (.pointer (some ⟨w.heap.size+2,0,none⟩))= .returned (.pointer (some ⟨L,0,none⟩))∧Lk Q ⟨w.heap.size,L,PA,pc,TA,tp⟩ ((((w.drewN m).alloc (.cells (madeCells #[.int .u8 0] (Q.all * Q.T.length)) 5)).alloc (.cells (madeCells #[.slice none 0 0] Q.C) 117)).alloc (.cells #[.slice (some PA) Q.T.length pc,.int .i64 (modeN Q.B Q.E:Nat),.slice (some TA) Q.old tp,.slice (some ⟨w.heap.size+1,0,none⟩) Q.C Q.C,.slice (some ⟨w.heap.size,0,none⟩) (Q.all * Q.T.length) (Q.all * Q.T.length),.slice none 0 0,.bool false] 72)) (S0 Q)∧
   Below w.heap.size w ((((w.drewN m).alloc (.cells (madeCells #[.int .u8 0] (Q.all * Q.T.length)) 5)).alloc (.cells (madeCells #[.slice none 0 0] Q.C) 117)).alloc (.cells #[.slice (some PA) Q.T.length pc,.int .i64 (modeN Q.B Q.E:Nat),.slice (some TA) Q.old tp,.slice (some ⟨w.heap.size+1,0,none⟩) Q.C Q.C,.slice (some ⟨w.heap.size,0,none⟩) (Q.all * Q.T.length) (Q.all * Q.T.length),.slice none 0 0,.bool false] 72))):=Lib.hid fun m=>by
  obtain⟨q1,q2,q3⟩:=heap3 w m (.cells (madeCells #[.int .u8 0] (Q.all * Q.T.length)) 5) (.cells (madeCells #[.slice none 0 0] Q.C) 117) (.cells #[.slice (some PA) Q.T.length pc,.int .i64 (modeN Q.B Q.E:Nat),.slice (some TA) Q.old tp,.slice (some ⟨w.heap.size+1,0,none⟩) Q.C Q.C,.slice (some ⟨w.heap.size,0,none⟩) (Q.all * Q.T.length) (Q.all * Q.T.length),.slice none 0 0,.bool false] 72);exact⟨_,rfl,lk_made q2 q1 q3 (by omega),((((below_dn w.heap.size w m).alloc (Nat.le_refl _) _).alloc (by simp) _).alloc (by simp;omega) _)⟩
 have hz1:=hz.all;have hz2:=hz.len;have hN:Q.all * Q.T.length≤1000000000:=by have:=Nat.mul_le_mul hz1 hz2;omega
 have e1:(Q.old:Int)+(Q.C:Int)=(Q.all:Int):=by unfold Pm.all;push_cast;rfl
 obtain⟨N,hN2⟩:∃ v,v=Q.all * Q.T.length:=⟨_,rfl⟩;have e2:(Q.all:Int) * (Q.T.length:Int)=(N:Int):=by rw[hN2];push_cast;rfl
 rw[←hN2] at hN;obtain⟨P,hP⟩:∃ v,v=Q.T.length:=⟨_,rfl⟩;obtain⟨C,hC2⟩:∃ v,v=Q.C:=⟨_,rfl⟩;obtain⟨A,hA⟩:∃ v,v=Q.all:=⟨_,rfl⟩;obtain⟨O,hO⟩:∃ v,v=Q.old:=⟨_,rfl⟩;obtain⟨mq,hmq⟩:∃ v,v=modeN Q.B Q.E:=⟨_,rfl⟩;rw[←hP] at c0 e2;rw[←hC2] at c1 e1 hC;rw[←hA] at e1 e2 hz1 hC;rw[←hO] at c3 e1;rw[←hmq];have hmk1:=run_make_row' (P:=Tryd.prog) 69 117 (.slice none 0 0) 24 Tryd.underlying69 info117 rfl .i64 .i64 C (by omega) (by omega);have hmk2:=run_make_row' (P:=Tryd.prog) 70 5 (.int .u8 0) 1 Tryd.underlying70 info5 rfl .i64 .i64 N (by omega) (by omega);have hO1:O≤1000000:=by omega
 rw[←hN2,←hP,←hC2,←hO,←hmq] at HE1 HE2;have a0:∀ m o,((w.drewN m).alloc o).cell? ⟨b,0,none⟩=some (.slice (some PA) P pc):=fun m o=>(al m o 0).trans c0
 have a1:∀ m o,((w.drewN m).alloc o).cell? ⟨b,1,none⟩=some (.int .i64 C):=fun m o=>(al m o 1).trans c1
 have a3:∀ m o,((w.drewN m).alloc o).cell? ⟨b,3,none⟩=some (.slice (some TA) O tp):=fun m o=>(al m o 3).trans c3
 have d0:∀ m o o',(((w.drewN m).alloc o).alloc o').cell? ⟨b,0,none⟩=some (.slice (some PA) P pc):=fun m o o'=>(al2 m o o' 0).trans c0
 have d1:∀ m o o',(((w.drewN m).alloc o).alloc o').cell? ⟨b,1,none⟩=some (.int .i64 C):=fun m o o'=>(al2 m o o' 1).trans c1
 have d3:∀ m o o',(((w.drewN m).alloc o).alloc o').cell? ⟨b,3,none⟩=some (.slice (some TA) O tp):=fun m o o'=>(al2 m o o' 3).trans c3
 clear al al2 hb1;clear hN2 hP hC2 hA hO hmq hz hz2 h;go_enter Tryd.func23,Tryd.ntmps23;go_wp2;go_quiet (fail);go_wp2
 go_region
 all_goals go_wp2
 ·go_ret
  exact HE1.out _
 ·go_ret
  exact HE2.out _
end Go.Proofs.YtiafefjaldcpbaaDoor
