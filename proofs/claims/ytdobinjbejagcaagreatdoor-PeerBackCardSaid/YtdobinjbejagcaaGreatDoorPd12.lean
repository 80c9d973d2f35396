import Derived.Test.YtdobinjbejagcaaGreatDoorPd9
import Derived.Test.YtdobinjbejagcaaGreatDoorGlI
namespace Go.Proofs.YtdobinjbejagcaaGreatDoor
open Go Go.RowKit
set_option maxRecDepth 100000
set_option maxHeartbeats 4000000
section
abbrev zeroEd:List Value:=[.int .i64 0,.string ⟨#[]⟩,.int .i64 0,.int .i64 0,.int .i64 0]
structure CyW (b:Nat) (w W:World) (S:ByteArray) (A:Option Addr) (n c:Nat) (l:List Tok) (v0 g0:Value) (k o:Nat) (sf:Sf) (gs:Gs) (qq:Nat) (vN vG:Value) (p:Nat) (vs:List Value):Prop where
 wt:WentP b w S A n c l v0 g0 k o sf gs qq vN vG W
 lt:b<w.heap.size
 at_:w.heap.size≤p
 pos:0<vs.length
 box:BoxP W p vs
 se:vN.ownBlock≠some p∧vG.ownBlock≠some p
theorem BoxP.block {W W':World} {p:Nat} {vs:List Value} (h:BoxP W p vs) (e:W'.heap[p]?=W.heap[p]?):BoxP W' p vs:=
 ⟨fun j u hu=>(World.cell?_of_block (a:=⟨p,j,none⟩) e).trans (h.at_ j u hu),fun j hj=>(World.frozen?_of_block (a:=⟨p,j,none⟩) e).trans (h.fr j hj)⟩
section
variable {b:Nat} {w W W':World} {S:ByteArray} {A:Option Addr} {n c:Nat} {l:List Tok} {k o k' o':Nat} {sf sf':Sf} {gs gs':Gs} {qq qq':Nat} {v0 g0 vN vG vN' vG':Value} {p:Nat} {vs:List Value}
theorem Cyp.went (h:Cyp b w W S A n c l k o sf gs qq vN vG [(p,vs)]) (hw:WentP b W S A n c l vN vG k' o' sf' gs' qq' vN' vG' W'):CyW b w W' S A n c l vN vG k' o' sf' gs' qq' vN' vG' p vs:=by
 obtain⟨h1,h2,h3⟩:=h.bx (p,vs) (by simp);have hs:=h.se (p,vs) (by simp);have hp:=h3.lt h2;have hl:=h.lt;refine⟨(WentP.of ⟨h.gr,h.rd⟩).trans hw,h.lt,h1,h2,h3.block (hw.far.block p hp (by dsimp only at h1;omega) hs.1 hs.2),?_,?_⟩
 ·intro e
  rcases hw.fN p e with q | q
  ·exact hs.1 q
  ·dsimp only at hp;omega
 ·intro e
  rcases hw.fG p e with q | q
  ·exact hs.2 q
  ·dsimp only at hp;omega
theorem CyW.put (h:CyW b w W S A n c l v0 g0 k o sf gs qq vN vG p vs) (j:Nat) (hj:j<vs.length) (u:Value):CyW b w (W.setCell ⟨p,j,none⟩ u) S A n c l v0 g0 k o sf gs qq vN vG p (vs.set j u):=by
 have hl:=h.lt;have ha:=h.at_
 refine⟨⟨⟨h.wt.far.os,h.wt.far.tape,h.wt.far.output,by simpa[World.setCell] using h.wt.far.size,fun i hi h1 h2 h3=>(Below.heap_setCell _ _ _ _ (by show i≠p;omega)).trans (h.wt.far.block i hi h1 h2 h3)⟩,h.wt.rd.other (a:=⟨p,j,none⟩) (by show b<p;omega) h.se.1 h.se.2 _,h.wt.fN,h.wt.fG⟩,h.lt,h.at_,by rw[List.length_set];exact h.pos,h.box.set j hj u,h.se⟩
theorem CyW.put5 {u0 u1 u2 u3 u4:Value} (h:CyW b w W S A n c l v0 g0 k o sf gs qq vN vG p [u0,u1,u2,u3,u4]) (w0 w1 w2 w3 w4:Value):CyW b w (((((W.setCell ⟨p,0,none⟩ w0).setCell ⟨p,1,none⟩ w1).setCell ⟨p,2,none⟩ w2).setCell ⟨p,3,none⟩ w3).setCell ⟨p,4,none⟩ w4) S A n c l v0 g0 k o sf gs qq vN vG p [w0,w1,w2,w3,w4]:=
 ((((h.put 0 (by simp) w0).put 1 (by simp) w1).put 2 (by simp) w2).put 3 (by simp) w3).put 4 (by simp) w4
end
abbrev GloC (T:ByteArray) (z:Int):Prop:=Hid (∀ w',Calls Tryz.prog 55 #[.string T] w' fun e w2=>∃ (A':Option Addr) (m c':Nat) (x:Int),e= .returned (.tuple #[.slice A' m c',.int .i64 x,.int .i64 z])∧Below w'.heap.size w' w2)
theorem gloC (s:Bs) (hs:s.length≤1000000):GloC ⟨s.toArray⟩ (parseGl s).2.2:=Lib.hid fun w'=>
 (rparse_anyGl ⟨s.toArray⟩ (by simpa[ByteArray.size] using hs) w').mono fun e w2 ⟨v,l,h1,h2,_⟩=>by
  have hv:∃ A' m c',v= .slice A' m c':=by
   rcases h2.row.2 with ⟨rfl,_⟩ | ⟨g,cap,cur,rfl,_⟩
   ·exact⟨_,_,_,rfl⟩
   ·exact⟨_,_,_,rfl⟩
  obtain⟨A',m,c',rfl⟩:=hv;exact⟨A',m,c',_,h1,h2.below⟩
abbrev ToC (b:Nat) (S:ByteArray) (A:Option Addr) (n c:Nat) (l:List Tok) (F:Nat→Prop) (k o:Nat) (sf:Sf) (gs:Gs) (qq:Nat) (vN vG:Value) (k5 o5:Nat) (gs5:Gs):Prop:=Hid (∀ w',DocP b w' S A n c l k o sf gs qq vN vG→Calls Tryz.prog 66 #[.pointer (some ⟨b,0,none⟩)] w' fun e w2=>∃ (x:Nat) (vN' vG':Value),e= .returned (.int .i64 x)∧WentP b w' S A n c l vN vG k5 o5 sf gs5 (qq+1) vN' vG' w2∧F x)
abbrev TexC (b:Nat) (S:ByteArray) (A:Option Addr) (n c:Nat) (l:List Tok) (T:ByteArray) (u k:Nat) (sf:Sf) (gs:Gs) (qq:Nat) (vN vG:Value) (k2 o2:Nat):Prop:=Hid (∀ w',DocP b w' S A n c l k 0 sf gs qq vN vG→Calls Tryz.prog 64 #[.pointer (some ⟨b,0,none⟩)] w' fun e w2=>e= .returned (.tuple #[.string T,.int .i64 u])∧StepP b w' S A n c l k2 o2 sf gs qq vN vG w2)
abbrev SofC (b:Nat) (S:ByteArray) (A:Option Addr) (n c:Nat) (l:List Tok) (m:Nat) (er:Int) (k:Nat) (sf sf':Sf) (gs:Gs) (qq:Nat) (vN vG:Value):Prop:=Hid (∀ w',DocP b w' S A n c l k 0 sf gs qq vN vG→Calls Tryz.prog 34 #[.pointer (some ⟨b,0,none⟩),.int .i64 m,.int .i64 er] w' fun e w2=>e= .returned (.tuple #[])∧StepP b w' S A n c l k 0 sf' gs qq vN vG w2)
theorem sofC (b:Nat) (S:ByteArray) (A:Option Addr) (n c:Nat) (l:List Tok) (m:Nat) (er:Int) (he:er≠0) (k:Nat) (hm:m<n) (sf sf':Sf) (hs:sf++[(m,er)]=sf') (gs:Gs) (qq:Nat) (vN vG:Value):SofC b S A n c l m er k sf sf' gs qq vN vG:=hs ▸ sofP b S A n c l m er he k 0 (fun _=>hm) sf gs qq vN vG
def EdgC (b:Nat) (w:World) (S:ByteArray) (A:Option Addr) (n c:Nat) (l:List Tok) (vN vG:Value) (G:EdP→Prop) (k5 o5:Nat) (sf5:Sf) (gs5:Gs) (qq:Nat) (e:Ending) (w':World):Prop:=
 ∃ (kd:Int) (T:ByteArray) (lo hi to:Int) (vN' vG':Value),e= .returned (.agg #[.int .i64 kd,.string T,.int .i64 lo,.int .i64 hi,.int .i64 to])∧WentP b w S A n c l vN vG k5 o5 sf5 gs5 qq vN' vG' w'∧G ⟨kd,T.data.toList,lo,hi,to⟩
end
theorem pedge_emit_fell_few (b:Nat) (w:World) (S:ByteArray) (A:Option Addr) (n c:Nat) (l:List Tok) (k:Nat) (many:Nat) (cap:Int) (sf:Sf) (T:ByteArray) (u k2:Nat) (R4:Rp (Int × Int)) (k5 o5:Nat) (gs5:Gs) (F:Nat→Prop) (gs:Gs) (qq:Nat) (vN vG:Value) (G:EdP→Prop) (h:DocP b w S A n c l k 0 sf gs qq vN vG) (hk:k<n) (hmm:many≤1000000) (hm:¬ 8≤many)
  (K1:IsPC b S A n c l 1 ⟨#[101,109,105,116]⟩ k 0 sf gs qq vN vG true) (K2:TexC b S A n c l T u (k+1) sf gs qq vN vG k2 1)
  (K4:DelP b S A n c l k2 1 R4 sf gs qq vN vG) (K5:ToC b S A n c l F R4.at R4.err (sf++R4.sfs) gs qq vN vG k5 o5 gs5)
  (hG:∀ (lo hi:Int) (x:Nat),(∀ d j s g,R4= .ok d j s g→d=(lo,hi))→F x→G ⟨1,(T:ByteArray).data.toList,lo,hi,x⟩):
  Calls Tryz.prog 38 #[.pointer (some ⟨b,0,none⟩),.int .i64 many,.int .i64 cap] w (EdgC b w S A n c l vN vG G k5 o5 (sf++R4.sfs) gs5 (qq+1)):=by
 have H:=Lib.hid ((Cyp.start h).alloc 39 zeroEd (by simp));have hbl:=h.lt;have HK:Hid (k+1≤n):=Lib.hid hk;have hkk:k≤1000000:=by have:=h.few;omega
 have hm1:¬ (8:Int)≤many:=by omega
 have HG:=Lib.hid hG;obtain⟨d1,d2,d4,f2⟩:=H.out.four0;clear h hk hG;go_enter Tryz.func38,Tryz.ntmps38
 go_wp2_with (first
  | (go_at_call 36;((with_reducible refine(K1.out _ H.out.rd).mono ?_));rintro e w1 ⟨rfl,hb1⟩;have H1:=Lib.hid (H.out.below hb1);obtain⟨x1,x2,x4,y2⟩:=H1.out.four0;clear hb1)
  | (go_at_call 64;go_must (((with_reducible refine(K2.out _ (((H1.out).place (k+1) ((k:Int)+1) (by omega) HK.out)).rd).mono ?_));rintro e w2 ⟨rfl,hs2⟩;have H2:=Lib.hid ((((H1.out).place (k+1) ((k:Int)+1) (by omega) HK.out)).call hs2);have z4:=H2.out.rd.c4;clear hs2))
  | (go_at_call 65;go_must (((with_reducible refine(K4.out _ H2.out.rd).mono ?_));rintro e w4 ⟨lo,hi,rfl,hs4,hy4⟩;have H4:=Lib.hid (H2.out.call hs4);have HY:=Lib.hid hy4;clear hs4 hy4))
  | (go_at_call 66;go_must (((with_reducible refine(K5.out _ H4.out.rd).mono ?_));rintro e w5 ⟨x,v5,t5,rfl,hs5,hF5⟩;have H5:=Lib.hid (H4.out.went hs5);have HF:=Lib.hid hF5;obtain⟨g0,g1,g2,g3,g4⟩:=H5.out.box.all5;obtain⟨j0,j1,j2,j3,j4⟩:=H5.out.box.fre5;clear hs5 hF5)))
 have HE:=H5.out.put5 (.int .i64 1) (.string T) (.int .i64 lo) (.int .i64 hi) (.int .i64 x);obtain⟨r0,r1,r2,r3,r4⟩:=HE.box.all5;exact bodyPost_ret (v:= .agg #[.int .i64 1,.string T,.int .i64 lo,.int .i64 hi,.int .i64 x]) (by simp[results,Tryz.results38,go_sem,r0,r1,r2,r3,r4]) rfl ⟨_,_,_,_,_,_,_,rfl,HE.wt,HG.out _ _ _ HY.out HF.out⟩
theorem pedge_emit_fine_few (b:Nat) (w:World) (S:ByteArray) (A:Option Addr) (n c:Nat) (l:List Tok) (k:Nat) (many:Nat) (cap:Int) (sf:Sf) (T:ByteArray) (u k2:Nat) (R4:Rp (Int × Int)) (k5 o5:Nat) (gs5:Gs) (F:Nat→Prop) (gs:Gs) (qq:Nat) (vN vG:Value) (G:EdP→Prop) (h:DocP b w S A n c l k 0 sf gs qq vN vG) (hk:k<n) (hmm:many≤1000000) (hm:¬ 8≤many)
  (K1:IsPC b S A n c l 1 ⟨#[101,109,105,116]⟩ k 0 sf gs qq vN vG true) (K2:TexC b S A n c l T u (k+1) sf gs qq vN vG k2 0)
  (ht:T.toList.isEmpty=false) (hc:¬ cap<T.size)
  (K4:DelP b S A n c l k2 0 R4 sf gs qq vN vG) (K5:ToC b S A n c l F R4.at R4.err (sf++R4.sfs) gs qq vN vG k5 o5 gs5)
  (hG:∀ (lo hi:Int) (x:Nat),(∀ d j s g,R4= .ok d j s g→d=(lo,hi))→F x→G ⟨1,(T:ByteArray).data.toList,lo,hi,x⟩):
  Calls Tryz.prog 38 #[.pointer (some ⟨b,0,none⟩),.int .i64 many,.int .i64 cap] w (EdgC b w S A n c l vN vG G k5 o5 (sf++R4.sfs) gs5 (qq+1)):=by
 have H:=Lib.hid ((Cyp.start h).alloc 39 zeroEd (by simp));have hbl:=h.lt;have HK:Hid (k+1≤n):=Lib.hid hk;have hkk:k≤1000000:=by have:=h.few;omega
 have hm1:¬ (8:Int)≤many:=by omega
 have HG:=Lib.hid hG;obtain⟨d1,d2,d4,f2⟩:=H.out.four0;clear h hk hG;go_enter Tryz.func38,Tryz.ntmps38
 go_wp2_with (first
  | (go_at_call 36;((with_reducible refine(K1.out _ H.out.rd).mono ?_));rintro e w1 ⟨rfl,hb1⟩;have H1:=Lib.hid (H.out.below hb1);obtain⟨x1,x2,x4,y2⟩:=H1.out.four0;clear hb1)
  | (go_at_call 64;go_must (((with_reducible refine(K2.out _ (((H1.out).place (k+1) ((k:Int)+1) (by omega) HK.out)).rd).mono ?_));rintro e w2 ⟨rfl,hs2⟩;have H2:=Lib.hid ((((H1.out).place (k+1) ((k:Int)+1) (by omega) HK.out)).call hs2);have z4:=H2.out.rd.c4;clear hs2))
  | (go_at_call 65;go_must (((with_reducible refine(K4.out _ H2.out.rd).mono ?_));rintro e w4 ⟨lo,hi,rfl,hs4,hy4⟩;have H4:=Lib.hid (H2.out.call hs4);have HY:=Lib.hid hy4;clear hs4 hy4))
  | (go_at_call 66;go_must (((with_reducible refine(K5.out _ H4.out.rd).mono ?_));rintro e w5 ⟨x,v5,t5,rfl,hs5,hF5⟩;have H5:=Lib.hid (H4.out.went hs5);have HF:=Lib.hid hF5;obtain⟨g0,g1,g2,g3,g4⟩:=H5.out.box.all5;obtain⟨j0,j1,j2,j3,j4⟩:=H5.out.box.fre5;clear hs5 hF5)))
 have HE:=H5.out.put5 (.int .i64 1) (.string T) (.int .i64 lo) (.int .i64 hi) (.int .i64 x);obtain⟨r0,r1,r2,r3,r4⟩:=HE.box.all5;exact bodyPost_ret (v:= .agg #[.int .i64 1,.string T,.int .i64 lo,.int .i64 hi,.int .i64 x]) (by simp[results,Tryz.results38,go_sem,r0,r1,r2,r3,r4]) rfl ⟨_,_,_,_,_,_,_,rfl,HE.wt,HG.out _ _ _ HY.out HF.out⟩
theorem pedge_emit_empty_few (b:Nat) (w:World) (S:ByteArray) (A:Option Addr) (n c:Nat) (l:List Tok) (k:Nat) (many:Nat) (cap:Int) (sf sf2:Sf) (u k2:Nat) (R4:Rp (Int × Int)) (k5 o5:Nat) (gs5:Gs) (F:Nat→Prop) (gs:Gs) (qq:Nat) (vN vG:Value) (G:EdP→Prop) (h:DocP b w S A n c l k 0 sf gs qq vN vG) (hk:k<n) (hmm:many≤1000000) (hm:¬ 8≤many)
  (K1:IsPC b S A n c l 1 ⟨#[101,109,105,116]⟩ k 0 sf gs qq vN vG true) (K2:TexC b S A n c l ⟨#[]⟩ u (k+1) sf gs qq vN vG k2 0)
  (K3:SofC b S A n c l u 5 k2 sf sf2 gs qq vN vG)
  (K4:DelP b S A n c l k2 0 R4 sf2 gs qq vN vG) (K5:ToC b S A n c l F R4.at R4.err (sf2++R4.sfs) gs qq vN vG k5 o5 gs5)
  (hG:∀ (lo hi:Int) (x:Nat),(∀ d j s g,R4= .ok d j s g→d=(lo,hi))→F x→G ⟨1,(⟨#[]⟩:ByteArray).data.toList,lo,hi,x⟩):
  Calls Tryz.prog 38 #[.pointer (some ⟨b,0,none⟩),.int .i64 many,.int .i64 cap] w (EdgC b w S A n c l vN vG G k5 o5 (sf2++R4.sfs) gs5 (qq+1)):=by
 have H:=Lib.hid ((Cyp.start h).alloc 39 zeroEd (by simp));have hbl:=h.lt;have HK:Hid (k+1≤n):=Lib.hid hk;have hkk:k≤1000000:=by have:=h.few;omega
 have hm1:¬ (8:Int)≤many:=by omega
 have HG:=Lib.hid hG;obtain⟨d1,d2,d4,f2⟩:=H.out.four0;clear h hk hG;go_enter Tryz.func38,Tryz.ntmps38
 go_wp2_with (first
  | (go_at_call 36;((with_reducible refine(K1.out _ H.out.rd).mono ?_));rintro e w1 ⟨rfl,hb1⟩;have H1:=Lib.hid (H.out.below hb1);obtain⟨x1,x2,x4,y2⟩:=H1.out.four0;clear hb1)
  | (go_at_call 64;go_must (((with_reducible refine(K2.out _ (((H1.out).place (k+1) ((k:Int)+1) (by omega) HK.out)).rd).mono ?_));rintro e w2 ⟨rfl,hs2⟩;have H2:=Lib.hid ((((H1.out).place (k+1) ((k:Int)+1) (by omega) HK.out)).call hs2);have z4:=H2.out.rd.c4;clear hs2))
  | (go_at_call 34;go_must (((with_reducible refine(K3.out _ H2.out.rd).mono ?_));rintro e w3 ⟨rfl,hs3⟩;have H3:=Lib.hid (H2.out.call hs3);clear hs3))
  | (go_at_call 65;go_must (((with_reducible refine(K4.out _ H3.out.rd).mono ?_));rintro e w4 ⟨lo,hi,rfl,hs4,hy4⟩;have H4:=Lib.hid (H3.out.call hs4);have HY:=Lib.hid hy4;clear hs4 hy4))
  | (go_at_call 66;go_must (((with_reducible refine(K5.out _ H4.out.rd).mono ?_));rintro e w5 ⟨x,v5,t5,rfl,hs5,hF5⟩;have H5:=Lib.hid (H4.out.went hs5);have HF:=Lib.hid hF5;obtain⟨g0,g1,g2,g3,g4⟩:=H5.out.box.all5;obtain⟨j0,j1,j2,j3,j4⟩:=H5.out.box.fre5;clear hs5 hF5)))
 have HE:=H5.out.put5 (.int .i64 1) (.string ⟨#[]⟩) (.int .i64 lo) (.int .i64 hi) (.int .i64 x);obtain⟨r0,r1,r2,r3,r4⟩:=HE.box.all5;exact bodyPost_ret (v:= .agg #[.int .i64 1,.string ⟨#[]⟩,.int .i64 lo,.int .i64 hi,.int .i64 x]) (by simp[results,Tryz.results38,go_sem,r0,r1,r2,r3,r4]) rfl ⟨_,_,_,_,_,_,_,rfl,HE.wt,HG.out _ _ _ HY.out HF.out⟩
theorem pedge_emit_long_few (b:Nat) (w:World) (S:ByteArray) (A:Option Addr) (n c:Nat) (l:List Tok) (k:Nat) (many:Nat) (cap:Int) (sf sf2:Sf) (T:ByteArray) (u k2:Nat) (R4:Rp (Int × Int)) (k5 o5:Nat) (gs5:Gs) (F:Nat→Prop) (gs:Gs) (qq:Nat) (vN vG:Value) (G:EdP→Prop) (h:DocP b w S A n c l k 0 sf gs qq vN vG) (hk:k<n) (hmm:many≤1000000) (hm:¬ 8≤many)
  (K1:IsPC b S A n c l 1 ⟨#[101,109,105,116]⟩ k 0 sf gs qq vN vG true) (K2:TexC b S A n c l T u (k+1) sf gs qq vN vG k2 0)
  (ht:T.toList.isEmpty=false) (hc:cap<T.size)
  (K3:SofC b S A n c l u 5 k2 sf sf2 gs qq vN vG)
  (K4:DelP b S A n c l k2 0 R4 sf2 gs qq vN vG) (K5:ToC b S A n c l F R4.at R4.err (sf2++R4.sfs) gs qq vN vG k5 o5 gs5)
  (hG:∀ (lo hi:Int) (x:Nat),(∀ d j s g,R4= .ok d j s g→d=(lo,hi))→F x→G ⟨1,(T:ByteArray).data.toList,lo,hi,x⟩):
  Calls Tryz.prog 38 #[.pointer (some ⟨b,0,none⟩),.int .i64 many,.int .i64 cap] w (EdgC b w S A n c l vN vG G k5 o5 (sf2++R4.sfs) gs5 (qq+1)):=by
 have H:=Lib.hid ((Cyp.start h).alloc 39 zeroEd (by simp));have hbl:=h.lt;have HK:Hid (k+1≤n):=Lib.hid hk;have hkk:k≤1000000:=by have:=h.few;omega
 have hm1:¬ (8:Int)≤many:=by omega
 have HG:=Lib.hid hG;obtain⟨d1,d2,d4,f2⟩:=H.out.four0;clear h hk hG;go_enter Tryz.func38,Tryz.ntmps38
 go_wp2_with (first
  | (go_at_call 36;((with_reducible refine(K1.out _ H.out.rd).mono ?_));rintro e w1 ⟨rfl,hb1⟩;have H1:=Lib.hid (H.out.below hb1);obtain⟨x1,x2,x4,y2⟩:=H1.out.four0;clear hb1)
  | (go_at_call 64;go_must (((with_reducible refine(K2.out _ (((H1.out).place (k+1) ((k:Int)+1) (by omega) HK.out)).rd).mono ?_));rintro e w2 ⟨rfl,hs2⟩;have H2:=Lib.hid ((((H1.out).place (k+1) ((k:Int)+1) (by omega) HK.out)).call hs2);have z4:=H2.out.rd.c4;clear hs2))
  | (go_at_call 34;go_must (((with_reducible refine(K3.out _ H2.out.rd).mono ?_));rintro e w3 ⟨rfl,hs3⟩;have H3:=Lib.hid (H2.out.call hs3);clear hs3))
  | (go_at_call 65;go_must (((with_reducible refine(K4.out _ H3.out.rd).mono ?_));rintro e w4 ⟨lo,hi,rfl,hs4,hy4⟩;have H4:=Lib.hid (H3.out.call hs4);have HY:=Lib.hid hy4;clear hs4 hy4))
  | (go_at_call 66;go_must (((with_reducible refine(K5.out _ H4.out.rd).mono ?_));rintro e w5 ⟨x,v5,t5,rfl,hs5,hF5⟩;have H5:=Lib.hid (H4.out.went hs5);have HF:=Lib.hid hF5;obtain⟨g0,g1,g2,g3,g4⟩:=H5.out.box.all5;obtain⟨j0,j1,j2,j3,j4⟩:=H5.out.box.fre5;clear hs5 hF5)))
 have HE:=H5.out.put5 (.int .i64 1) (.string T) (.int .i64 lo) (.int .i64 hi) (.int .i64 x);obtain⟨r0,r1,r2,r3,r4⟩:=HE.box.all5;exact bodyPost_ret (v:= .agg #[.int .i64 1,.string T,.int .i64 lo,.int .i64 hi,.int .i64 x]) (by simp[results,Tryz.results38,go_sem,r0,r1,r2,r3,r4]) rfl ⟨_,_,_,_,_,_,_,rfl,HE.wt,HG.out _ _ _ HY.out HF.out⟩
theorem pedge_emit_fell_big (b:Nat) (w:World) (S:ByteArray) (A:Option Addr) (n c:Nat) (l:List Tok) (k:Nat) (many:Nat) (cap:Int) (sf sf0:Sf) (T:ByteArray) (u k2:Nat) (R4:Rp (Int × Int)) (k5 o5:Nat) (gs5:Gs) (F:Nat→Prop) (gs:Gs) (qq:Nat) (vN vG:Value) (G:EdP→Prop) (h:DocP b w S A n c l k 0 sf gs qq vN vG) (hk:k<n) (hmm:many≤1000000) (hm:8≤many)
  (K0:SofC b S A n c l k 9 k sf sf0 gs qq vN vG)
  (K1:IsPC b S A n c l 1 ⟨#[101,109,105,116]⟩ k 0 sf0 gs qq vN vG true) (K2:TexC b S A n c l T u (k+1) sf0 gs qq vN vG k2 1)
  (K4:DelP b S A n c l k2 1 R4 sf0 gs qq vN vG) (K5:ToC b S A n c l F R4.at R4.err (sf0++R4.sfs) gs qq vN vG k5 o5 gs5)
  (hG:∀ (lo hi:Int) (x:Nat),(∀ d j s g,R4= .ok d j s g→d=(lo,hi))→F x→G ⟨1,(T:ByteArray).data.toList,lo,hi,x⟩):
  Calls Tryz.prog 38 #[.pointer (some ⟨b,0,none⟩),.int .i64 many,.int .i64 cap] w (EdgC b w S A n c l vN vG G k5 o5 (sf0++R4.sfs) gs5 (qq+1)):=by
 have H:=Lib.hid ((Cyp.start h).alloc 39 zeroEd (by simp));have hbl:=h.lt;have HK:Hid (k+1≤n):=Lib.hid hk;have hkk:k≤1000000:=by have:=h.few;omega
 have hm1:(8:Int)≤many:=by omega
 have HG:=Lib.hid hG;obtain⟨d1,d2,d4,f2⟩:=H.out.four0;clear h hk hG;go_enter Tryz.func38,Tryz.ntmps38
 go_wp2_with (first
  | (go_at_call 34;((with_reducible refine(K0.out _ H.out.rd).mono ?_));rintro e w0 ⟨rfl,hs0⟩;have H0:=Lib.hid (H.out.call hs0);clear hs0)
  | (go_at_call 36;((with_reducible refine(K1.out _ H0.out.rd).mono ?_));rintro e w1 ⟨rfl,hb1⟩;have H1:=Lib.hid (H0.out.below hb1);obtain⟨x1,x2,x4,y2⟩:=H1.out.four0;clear hb1)
  | (go_at_call 64;go_must (((with_reducible refine(K2.out _ (((H1.out).place (k+1) ((k:Int)+1) (by omega) HK.out)).rd).mono ?_));rintro e w2 ⟨rfl,hs2⟩;have H2:=Lib.hid ((((H1.out).place (k+1) ((k:Int)+1) (by omega) HK.out)).call hs2);have z4:=H2.out.rd.c4;clear hs2))
  | (go_at_call 65;go_must (((with_reducible refine(K4.out _ H2.out.rd).mono ?_));rintro e w4 ⟨lo,hi,rfl,hs4,hy4⟩;have H4:=Lib.hid (H2.out.call hs4);have HY:=Lib.hid hy4;clear hs4 hy4))
  | (go_at_call 66;go_must (((with_reducible refine(K5.out _ H4.out.rd).mono ?_));rintro e w5 ⟨x,v5,t5,rfl,hs5,hF5⟩;have H5:=Lib.hid (H4.out.went hs5);have HF:=Lib.hid hF5;obtain⟨g0,g1,g2,g3,g4⟩:=H5.out.box.all5;obtain⟨j0,j1,j2,j3,j4⟩:=H5.out.box.fre5;clear hs5 hF5)))
 have HE:=H5.out.put5 (.int .i64 1) (.string T) (.int .i64 lo) (.int .i64 hi) (.int .i64 x);obtain⟨r0,r1,r2,r3,r4⟩:=HE.box.all5;exact bodyPost_ret (v:= .agg #[.int .i64 1,.string T,.int .i64 lo,.int .i64 hi,.int .i64 x]) (by simp[results,Tryz.results38,go_sem,r0,r1,r2,r3,r4]) rfl ⟨_,_,_,_,_,_,_,rfl,HE.wt,HG.out _ _ _ HY.out HF.out⟩
theorem pedge_emit_fine_big (b:Nat) (w:World) (S:ByteArray) (A:Option Addr) (n c:Nat) (l:List Tok) (k:Nat) (many:Nat) (cap:Int) (sf sf0:Sf) (T:ByteArray) (u k2:Nat) (R4:Rp (Int × Int)) (k5 o5:Nat) (gs5:Gs) (F:Nat→Prop) (gs:Gs) (qq:Nat) (vN vG:Value) (G:EdP→Prop) (h:DocP b w S A n c l k 0 sf gs qq vN vG) (hk:k<n) (hmm:many≤1000000) (hm:8≤many)
  (K0:SofC b S A n c l k 9 k sf sf0 gs qq vN vG)
  (K1:IsPC b S A n c l 1 ⟨#[101,109,105,116]⟩ k 0 sf0 gs qq vN vG true) (K2:TexC b S A n c l T u (k+1) sf0 gs qq vN vG k2 0)
  (ht:T.toList.isEmpty=false) (hc:¬ cap<T.size)
  (K4:DelP b S A n c l k2 0 R4 sf0 gs qq vN vG) (K5:ToC b S A n c l F R4.at R4.err (sf0++R4.sfs) gs qq vN vG k5 o5 gs5)
  (hG:∀ (lo hi:Int) (x:Nat),(∀ d j s g,R4= .ok d j s g→d=(lo,hi))→F x→G ⟨1,(T:ByteArray).data.toList,lo,hi,x⟩):
  Calls Tryz.prog 38 #[.pointer (some ⟨b,0,none⟩),.int .i64 many,.int .i64 cap] w (EdgC b w S A n c l vN vG G k5 o5 (sf0++R4.sfs) gs5 (qq+1)):=by
 have H:=Lib.hid ((Cyp.start h).alloc 39 zeroEd (by simp));have hbl:=h.lt;have HK:Hid (k+1≤n):=Lib.hid hk;have hkk:k≤1000000:=by have:=h.few;omega
 have hm1:(8:Int)≤many:=by omega
 have HG:=Lib.hid hG;obtain⟨d1,d2,d4,f2⟩:=H.out.four0;clear h hk hG;go_enter Tryz.func38,Tryz.ntmps38
 go_wp2_with (first
  | (go_at_call 34;((with_reducible refine(K0.out _ H.out.rd).mono ?_));rintro e w0 ⟨rfl,hs0⟩;have H0:=Lib.hid (H.out.call hs0);clear hs0)
  | (go_at_call 36;((with_reducible refine(K1.out _ H0.out.rd).mono ?_));rintro e w1 ⟨rfl,hb1⟩;have H1:=Lib.hid (H0.out.below hb1);obtain⟨x1,x2,x4,y2⟩:=H1.out.four0;clear hb1)
  | (go_at_call 64;go_must (((with_reducible refine(K2.out _ (((H1.out).place (k+1) ((k:Int)+1) (by omega) HK.out)).rd).mono ?_));rintro e w2 ⟨rfl,hs2⟩;have H2:=Lib.hid ((((H1.out).place (k+1) ((k:Int)+1) (by omega) HK.out)).call hs2);have z4:=H2.out.rd.c4;clear hs2))
  | (go_at_call 65;go_must (((with_reducible refine(K4.out _ H2.out.rd).mono ?_));rintro e w4 ⟨lo,hi,rfl,hs4,hy4⟩;have H4:=Lib.hid (H2.out.call hs4);have HY:=Lib.hid hy4;clear hs4 hy4))
  | (go_at_call 66;go_must (((with_reducible refine(K5.out _ H4.out.rd).mono ?_));rintro e w5 ⟨x,v5,t5,rfl,hs5,hF5⟩;have H5:=Lib.hid (H4.out.went hs5);have HF:=Lib.hid hF5;obtain⟨g0,g1,g2,g3,g4⟩:=H5.out.box.all5;obtain⟨j0,j1,j2,j3,j4⟩:=H5.out.box.fre5;clear hs5 hF5)))
 have HE:=H5.out.put5 (.int .i64 1) (.string T) (.int .i64 lo) (.int .i64 hi) (.int .i64 x);obtain⟨r0,r1,r2,r3,r4⟩:=HE.box.all5;exact bodyPost_ret (v:= .agg #[.int .i64 1,.string T,.int .i64 lo,.int .i64 hi,.int .i64 x]) (by simp[results,Tryz.results38,go_sem,r0,r1,r2,r3,r4]) rfl ⟨_,_,_,_,_,_,_,rfl,HE.wt,HG.out _ _ _ HY.out HF.out⟩
theorem pedge_emit_empty_big (b:Nat) (w:World) (S:ByteArray) (A:Option Addr) (n c:Nat) (l:List Tok) (k:Nat) (many:Nat) (cap:Int) (sf sf0 sf2:Sf) (u k2:Nat) (R4:Rp (Int × Int)) (k5 o5:Nat) (gs5:Gs) (F:Nat→Prop) (gs:Gs) (qq:Nat) (vN vG:Value) (G:EdP→Prop) (h:DocP b w S A n c l k 0 sf gs qq vN vG) (hk:k<n) (hmm:many≤1000000) (hm:8≤many)
  (K0:SofC b S A n c l k 9 k sf sf0 gs qq vN vG)
  (K1:IsPC b S A n c l 1 ⟨#[101,109,105,116]⟩ k 0 sf0 gs qq vN vG true) (K2:TexC b S A n c l ⟨#[]⟩ u (k+1) sf0 gs qq vN vG k2 0)
  (K3:SofC b S A n c l u 5 k2 sf0 sf2 gs qq vN vG)
  (K4:DelP b S A n c l k2 0 R4 sf2 gs qq vN vG) (K5:ToC b S A n c l F R4.at R4.err (sf2++R4.sfs) gs qq vN vG k5 o5 gs5)
  (hG:∀ (lo hi:Int) (x:Nat),(∀ d j s g,R4= .ok d j s g→d=(lo,hi))→F x→G ⟨1,(⟨#[]⟩:ByteArray).data.toList,lo,hi,x⟩):
  Calls Tryz.prog 38 #[.pointer (some ⟨b,0,none⟩),.int .i64 many,.int .i64 cap] w (EdgC b w S A n c l vN vG G k5 o5 (sf2++R4.sfs) gs5 (qq+1)):=by
 have H:=Lib.hid ((Cyp.start h).alloc 39 zeroEd (by simp));have hbl:=h.lt;have HK:Hid (k+1≤n):=Lib.hid hk;have hkk:k≤1000000:=by have:=h.few;omega
 have hm1:(8:Int)≤many:=by omega
 have HG:=Lib.hid hG;obtain⟨d1,d2,d4,f2⟩:=H.out.four0;clear h hk hG;go_enter Tryz.func38,Tryz.ntmps38
 go_wp2_with (first
  | (go_at_call 34;((with_reducible refine(K0.out _ H.out.rd).mono ?_));rintro e w0 ⟨rfl,hs0⟩;have H0:=Lib.hid (H.out.call hs0);clear hs0)
  | (go_at_call 36;((with_reducible refine(K1.out _ H0.out.rd).mono ?_));rintro e w1 ⟨rfl,hb1⟩;have H1:=Lib.hid (H0.out.below hb1);obtain⟨x1,x2,x4,y2⟩:=H1.out.four0;clear hb1)
  | (go_at_call 64;go_must (((with_reducible refine(K2.out _ (((H1.out).place (k+1) ((k:Int)+1) (by omega) HK.out)).rd).mono ?_));rintro e w2 ⟨rfl,hs2⟩;have H2:=Lib.hid ((((H1.out).place (k+1) ((k:Int)+1) (by omega) HK.out)).call hs2);have z4:=H2.out.rd.c4;clear hs2))
  | (go_at_call 34;go_must (((with_reducible refine(K3.out _ H2.out.rd).mono ?_));rintro e w3 ⟨rfl,hs3⟩;have H3:=Lib.hid (H2.out.call hs3);clear hs3))
  | (go_at_call 65;go_must (((with_reducible refine(K4.out _ H3.out.rd).mono ?_));rintro e w4 ⟨lo,hi,rfl,hs4,hy4⟩;have H4:=Lib.hid (H3.out.call hs4);have HY:=Lib.hid hy4;clear hs4 hy4))
  | (go_at_call 66;go_must (((with_reducible refine(K5.out _ H4.out.rd).mono ?_));rintro e w5 ⟨x,v5,t5,rfl,hs5,hF5⟩;have H5:=Lib.hid (H4.out.went hs5);have HF:=Lib.hid hF5;obtain⟨g0,g1,g2,g3,g4⟩:=H5.out.box.all5;obtain⟨j0,j1,j2,j3,j4⟩:=H5.out.box.fre5;clear hs5 hF5)))
 have HE:=H5.out.put5 (.int .i64 1) (.string ⟨#[]⟩) (.int .i64 lo) (.int .i64 hi) (.int .i64 x);obtain⟨r0,r1,r2,r3,r4⟩:=HE.box.all5;exact bodyPost_ret (v:= .agg #[.int .i64 1,.string ⟨#[]⟩,.int .i64 lo,.int .i64 hi,.int .i64 x]) (by simp[results,Tryz.results38,go_sem,r0,r1,r2,r3,r4]) rfl ⟨_,_,_,_,_,_,_,rfl,HE.wt,HG.out _ _ _ HY.out HF.out⟩
theorem pedge_emit_long_big (b:Nat) (w:World) (S:ByteArray) (A:Option Addr) (n c:Nat) (l:List Tok) (k:Nat) (many:Nat) (cap:Int) (sf sf0 sf2:Sf) (T:ByteArray) (u k2:Nat) (R4:Rp (Int × Int)) (k5 o5:Nat) (gs5:Gs) (F:Nat→Prop) (gs:Gs) (qq:Nat) (vN vG:Value) (G:EdP→Prop) (h:DocP b w S A n c l k 0 sf gs qq vN vG) (hk:k<n) (hmm:many≤1000000) (hm:8≤many)
  (K0:SofC b S A n c l k 9 k sf sf0 gs qq vN vG)
  (K1:IsPC b S A n c l 1 ⟨#[101,109,105,116]⟩ k 0 sf0 gs qq vN vG true) (K2:TexC b S A n c l T u (k+1) sf0 gs qq vN vG k2 0)
  (ht:T.toList.isEmpty=false) (hc:cap<T.size)
  (K3:SofC b S A n c l u 5 k2 sf0 sf2 gs qq vN vG)
  (K4:DelP b S A n c l k2 0 R4 sf2 gs qq vN vG) (K5:ToC b S A n c l F R4.at R4.err (sf2++R4.sfs) gs qq vN vG k5 o5 gs5)
  (hG:∀ (lo hi:Int) (x:Nat),(∀ d j s g,R4= .ok d j s g→d=(lo,hi))→F x→G ⟨1,(T:ByteArray).data.toList,lo,hi,x⟩):
  Calls Tryz.prog 38 #[.pointer (some ⟨b,0,none⟩),.int .i64 many,.int .i64 cap] w (EdgC b w S A n c l vN vG G k5 o5 (sf2++R4.sfs) gs5 (qq+1)):=by
 have H:=Lib.hid ((Cyp.start h).alloc 39 zeroEd (by simp));have hbl:=h.lt;have HK:Hid (k+1≤n):=Lib.hid hk;have hkk:k≤1000000:=by have:=h.few;omega
 have hm1:(8:Int)≤many:=by omega
 have HG:=Lib.hid hG;obtain⟨d1,d2,d4,f2⟩:=H.out.four0;clear h hk hG;go_enter Tryz.func38,Tryz.ntmps38
 go_wp2_with (first
  | (go_at_call 34;((with_reducible refine(K0.out _ H.out.rd).mono ?_));rintro e w0 ⟨rfl,hs0⟩;have H0:=Lib.hid (H.out.call hs0);clear hs0)
  | (go_at_call 36;((with_reducible refine(K1.out _ H0.out.rd).mono ?_));rintro e w1 ⟨rfl,hb1⟩;have H1:=Lib.hid (H0.out.below hb1);obtain⟨x1,x2,x4,y2⟩:=H1.out.four0;clear hb1)
  | (go_at_call 64;go_must (((with_reducible refine(K2.out _ (((H1.out).place (k+1) ((k:Int)+1) (by omega) HK.out)).rd).mono ?_));rintro e w2 ⟨rfl,hs2⟩;have H2:=Lib.hid ((((H1.out).place (k+1) ((k:Int)+1) (by omega) HK.out)).call hs2);have z4:=H2.out.rd.c4;clear hs2))
  | (go_at_call 34;go_must (((with_reducible refine(K3.out _ H2.out.rd).mono ?_));rintro e w3 ⟨rfl,hs3⟩;have H3:=Lib.hid (H2.out.call hs3);clear hs3))
  | (go_at_call 65;go_must (((with_reducible refine(K4.out _ H3.out.rd).mono ?_));rintro e w4 ⟨lo,hi,rfl,hs4,hy4⟩;have H4:=Lib.hid (H3.out.call hs4);have HY:=Lib.hid hy4;clear hs4 hy4))
  | (go_at_call 66;go_must (((with_reducible refine(K5.out _ H4.out.rd).mono ?_));rintro e w5 ⟨x,v5,t5,rfl,hs5,hF5⟩;have H5:=Lib.hid (H4.out.went hs5);have HF:=Lib.hid hF5;obtain⟨g0,g1,g2,g3,g4⟩:=H5.out.box.all5;obtain⟨j0,j1,j2,j3,j4⟩:=H5.out.box.fre5;clear hs5 hF5)))
 have HE:=H5.out.put5 (.int .i64 1) (.string T) (.int .i64 lo) (.int .i64 hi) (.int .i64 x);obtain⟨r0,r1,r2,r3,r4⟩:=HE.box.all5;exact bodyPost_ret (v:= .agg #[.int .i64 1,.string T,.int .i64 lo,.int .i64 hi,.int .i64 x]) (by simp[results,Tryz.results38,go_sem,r0,r1,r2,r3,r4]) rfl ⟨_,_,_,_,_,_,_,rfl,HE.wt,HG.out _ _ _ HY.out HF.out⟩
theorem pedge_line_fell_few (b:Nat) (w:World) (S:ByteArray) (A:Option Addr) (n c:Nat) (l:List Tok) (k:Nat) (many:Nat) (cap:Int) (sf:Sf) (T:ByteArray) (z:Int) (u k2:Nat) (k5 o5:Nat) (gs5:Gs) (F:Nat→Prop) (gs:Gs) (qq:Nat) (vN vG:Value) (G:EdP→Prop) (h:DocP b w S A n c l k 0 sf gs qq vN vG) (hk:k<n) (hmm:many≤1000000) (hm:¬ 8≤many)
  (K1:IsPC b S A n c l 1 ⟨#[101,109,105,116]⟩ k 0 sf gs qq vN vG false) (K6:IsPC b S A n c l 1 ⟨#[108,105,110,101]⟩ k 0 sf gs qq vN vG true) (K2:TexC b S A n c l T u (k+1) sf gs qq vN vG k2 1) (K7:GloC T z)
  (K5:ToC b S A n c l F k2 1 sf gs qq vN vG k5 o5 gs5)
  (hG:∀ (x:Nat),F x→G ⟨2,T.data.toList,0,0,x⟩):
  Calls Tryz.prog 38 #[.pointer (some ⟨b,0,none⟩),.int .i64 many,.int .i64 cap] w (EdgC b w S A n c l vN vG G k5 o5 sf gs5 (qq+1)):=by
 have H:=Lib.hid ((Cyp.start h).alloc 39 zeroEd (by simp));have hbl:=h.lt;have HK:Hid (k+1≤n):=Lib.hid hk;have hkk:k≤1000000:=by have:=h.few;omega
 have hm1:¬ (8:Int)≤many:=by omega
 have HG:=Lib.hid hG;obtain⟨d1,d2,d4,f2⟩:=H.out.four0;clear h hk hG;go_enter Tryz.func38,Tryz.ntmps38
 go_wp2_with (first
  | (go_at_call 36;((with_reducible refine(K1.out _ H.out.rd).mono ?_));rintro e w1 ⟨rfl,hb1⟩;have H1:=Lib.hid (H.out.below hb1);clear hb1)
  | (go_at_call 36;((with_reducible refine(K6.out _ H1.out.rd).mono ?_));rintro e w1 ⟨rfl,hb1⟩;have H6:=Lib.hid (H1.out.below hb1);obtain⟨x1,x2,x4,y2⟩:=H6.out.four0;clear hb1)
  | (go_at_call 64;go_must (((with_reducible refine(K2.out _ (((H6.out).place (k+1) ((k:Int)+1) (by omega) HK.out)).rd).mono ?_));rintro e w2 ⟨rfl,hs2⟩;have H2:=Lib.hid ((((H6.out).place (k+1) ((k:Int)+1) (by omega) HK.out)).call hs2);clear hs2))
  | (go_at_call 55;go_must (((with_reducible refine(K7.out _).mono ?_));rintro e w7 ⟨A7,m7,c7,x7,rfl,hb7⟩;have H7:=Lib.hid (H2.out.below hb7);have z4:=H7.out.rd.c4;clear hb7))
  | (go_at_call 66;go_must (((with_reducible refine(K5.out _ H7.out.rd).mono ?_));rintro e w5 ⟨x,v5,t5,rfl,hs5,hF5⟩;have H5:=Lib.hid (H7.out.went hs5);have HF:=Lib.hid hF5;obtain⟨g0,g1,g2,g3,g4⟩:=H5.out.box.all5;obtain⟨j0,j1,j2,j3,j4⟩:=H5.out.box.fre5;clear hs5 hF5)))
 have HE:=H5.out.put5 (.int .i64 2) (.string T) (.int .i64 0) (.int .i64 0) (.int .i64 x);obtain⟨r0,r1,r2,r3,r4⟩:=HE.box.all5;exact bodyPost_ret (v:= .agg #[.int .i64 2,.string T,.int .i64 0,.int .i64 0,.int .i64 x]) (by simp[results,Tryz.results38,go_sem,r0,r1,r2,r3,r4]) rfl ⟨_,_,_,_,_,_,_,rfl,HE.wt,HG.out _ HF.out⟩
theorem pedge_line_fine_few (b:Nat) (w:World) (S:ByteArray) (A:Option Addr) (n c:Nat) (l:List Tok) (k:Nat) (many:Nat) (cap:Int) (sf:Sf) (T:ByteArray) (z:Int) (u k2:Nat) (k5 o5:Nat) (gs5:Gs) (F:Nat→Prop) (gs:Gs) (qq:Nat) (vN vG:Value) (G:EdP→Prop) (h:DocP b w S A n c l k 0 sf gs qq vN vG) (hk:k<n) (hmm:many≤1000000) (hm:¬ 8≤many)
  (K1:IsPC b S A n c l 1 ⟨#[101,109,105,116]⟩ k 0 sf gs qq vN vG false) (K6:IsPC b S A n c l 1 ⟨#[108,105,110,101]⟩ k 0 sf gs qq vN vG true) (K2:TexC b S A n c l T u (k+1) sf gs qq vN vG k2 0) (K7:GloC T z)
  (hz:z=0)
  (K5:ToC b S A n c l F k2 0 sf gs qq vN vG k5 o5 gs5)
  (hG:∀ (x:Nat),F x→G ⟨2,T.data.toList,0,0,x⟩):
  Calls Tryz.prog 38 #[.pointer (some ⟨b,0,none⟩),.int .i64 many,.int .i64 cap] w (EdgC b w S A n c l vN vG G k5 o5 sf gs5 (qq+1)):=by
 have H:=Lib.hid ((Cyp.start h).alloc 39 zeroEd (by simp));have hbl:=h.lt;have HK:Hid (k+1≤n):=Lib.hid hk;have hkk:k≤1000000:=by have:=h.few;omega
 have hm1:¬ (8:Int)≤many:=by omega
 have HG:=Lib.hid hG;subst hz;obtain⟨d1,d2,d4,f2⟩:=H.out.four0;clear h hk hG;go_enter Tryz.func38,Tryz.ntmps38
 go_wp2_with (first
  | (go_at_call 36;((with_reducible refine(K1.out _ H.out.rd).mono ?_));rintro e w1 ⟨rfl,hb1⟩;have H1:=Lib.hid (H.out.below hb1);clear hb1)
  | (go_at_call 36;((with_reducible refine(K6.out _ H1.out.rd).mono ?_));rintro e w1 ⟨rfl,hb1⟩;have H6:=Lib.hid (H1.out.below hb1);obtain⟨x1,x2,x4,y2⟩:=H6.out.four0;clear hb1)
  | (go_at_call 64;go_must (((with_reducible refine(K2.out _ (((H6.out).place (k+1) ((k:Int)+1) (by omega) HK.out)).rd).mono ?_));rintro e w2 ⟨rfl,hs2⟩;have H2:=Lib.hid ((((H6.out).place (k+1) ((k:Int)+1) (by omega) HK.out)).call hs2);clear hs2))
  | (go_at_call 55;go_must (((with_reducible refine(K7.out _).mono ?_));rintro e w7 ⟨A7,m7,c7,x7,rfl,hb7⟩;have H7:=Lib.hid (H2.out.below hb7);have z4:=H7.out.rd.c4;clear hb7))
  | (go_at_call 66;go_must (((with_reducible refine(K5.out _ H7.out.rd).mono ?_));rintro e w5 ⟨x,v5,t5,rfl,hs5,hF5⟩;have H5:=Lib.hid (H7.out.went hs5);have HF:=Lib.hid hF5;obtain⟨g0,g1,g2,g3,g4⟩:=H5.out.box.all5;obtain⟨j0,j1,j2,j3,j4⟩:=H5.out.box.fre5;clear hs5 hF5)))
 have HE:=H5.out.put5 (.int .i64 2) (.string T) (.int .i64 0) (.int .i64 0) (.int .i64 x);obtain⟨r0,r1,r2,r3,r4⟩:=HE.box.all5;exact bodyPost_ret (v:= .agg #[.int .i64 2,.string T,.int .i64 0,.int .i64 0,.int .i64 x]) (by simp[results,Tryz.results38,go_sem,r0,r1,r2,r3,r4]) rfl ⟨_,_,_,_,_,_,_,rfl,HE.wt,HG.out _ HF.out⟩
theorem pedge_line_wrong_few (b:Nat) (w:World) (S:ByteArray) (A:Option Addr) (n c:Nat) (l:List Tok) (k:Nat) (many:Nat) (cap:Int) (sf sf2:Sf) (T:ByteArray) (z:Int) (u k2:Nat) (k5 o5:Nat) (gs5:Gs) (F:Nat→Prop) (gs:Gs) (qq:Nat) (vN vG:Value) (G:EdP→Prop) (h:DocP b w S A n c l k 0 sf gs qq vN vG) (hk:k<n) (hmm:many≤1000000) (hm:¬ 8≤many)
  (K1:IsPC b S A n c l 1 ⟨#[101,109,105,116]⟩ k 0 sf gs qq vN vG false) (K6:IsPC b S A n c l 1 ⟨#[108,105,110,101]⟩ k 0 sf gs qq vN vG true) (K2:TexC b S A n c l T u (k+1) sf gs qq vN vG k2 0) (K7:GloC T z)
  (hz:¬ z=0) (K3:SofC b S A n c l u 5 k2 sf sf2 gs qq vN vG)
  (K5:ToC b S A n c l F k2 0 sf2 gs qq vN vG k5 o5 gs5)
  (hG:∀ (x:Nat),F x→G ⟨2,T.data.toList,0,0,x⟩):
  Calls Tryz.prog 38 #[.pointer (some ⟨b,0,none⟩),.int .i64 many,.int .i64 cap] w (EdgC b w S A n c l vN vG G k5 o5 sf2 gs5 (qq+1)):=by
 have H:=Lib.hid ((Cyp.start h).alloc 39 zeroEd (by simp));have hbl:=h.lt;have HK:Hid (k+1≤n):=Lib.hid hk;have hkk:k≤1000000:=by have:=h.few;omega
 have hm1:¬ (8:Int)≤many:=by omega
 have HG:=Lib.hid hG;have hz1:(z==0)=false:=by simpa using hz
 have hz2:(z != 0)=true:=by simpa using hz
 obtain⟨d1,d2,d4,f2⟩:=H.out.four0;clear h hk hG hz;go_enter Tryz.func38,Tryz.ntmps38
 go_wp2_with (first
  | (go_at_call 36;((with_reducible refine(K1.out _ H.out.rd).mono ?_));rintro e w1 ⟨rfl,hb1⟩;have H1:=Lib.hid (H.out.below hb1);clear hb1)
  | (go_at_call 36;((with_reducible refine(K6.out _ H1.out.rd).mono ?_));rintro e w1 ⟨rfl,hb1⟩;have H6:=Lib.hid (H1.out.below hb1);obtain⟨x1,x2,x4,y2⟩:=H6.out.four0;clear hb1)
  | (go_at_call 64;go_must (((with_reducible refine(K2.out _ (((H6.out).place (k+1) ((k:Int)+1) (by omega) HK.out)).rd).mono ?_));rintro e w2 ⟨rfl,hs2⟩;have H2:=Lib.hid ((((H6.out).place (k+1) ((k:Int)+1) (by omega) HK.out)).call hs2);clear hs2))
  | (go_at_call 55;go_must (((with_reducible refine(K7.out _).mono ?_));rintro e w7 ⟨A7,m7,c7,x7,rfl,hb7⟩;have H7:=Lib.hid (H2.out.below hb7);have z4:=H7.out.rd.c4;clear hb7))
  | (go_at_call 34;go_must (((with_reducible refine(K3.out _ H7.out.rd).mono ?_));rintro e w3 ⟨rfl,hs3⟩;have H3:=Lib.hid (H7.out.call hs3);clear hs3))
  | (go_at_call 66;go_must (((with_reducible refine(K5.out _ H3.out.rd).mono ?_));rintro e w5 ⟨x,v5,t5,rfl,hs5,hF5⟩;have H5:=Lib.hid (H3.out.went hs5);have HF:=Lib.hid hF5;obtain⟨g0,g1,g2,g3,g4⟩:=H5.out.box.all5;obtain⟨j0,j1,j2,j3,j4⟩:=H5.out.box.fre5;clear hs5 hF5)))
 have HE:=H5.out.put5 (.int .i64 2) (.string T) (.int .i64 0) (.int .i64 0) (.int .i64 x);obtain⟨r0,r1,r2,r3,r4⟩:=HE.box.all5;exact bodyPost_ret (v:= .agg #[.int .i64 2,.string T,.int .i64 0,.int .i64 0,.int .i64 x]) (by simp[results,Tryz.results38,go_sem,r0,r1,r2,r3,r4]) rfl ⟨_,_,_,_,_,_,_,rfl,HE.wt,HG.out _ HF.out⟩
theorem pedge_line_fell_big (b:Nat) (w:World) (S:ByteArray) (A:Option Addr) (n c:Nat) (l:List Tok) (k:Nat) (many:Nat) (cap:Int) (sf sf0:Sf) (T:ByteArray) (z:Int) (u k2:Nat) (k5 o5:Nat) (gs5:Gs) (F:Nat→Prop) (gs:Gs) (qq:Nat) (vN vG:Value) (G:EdP→Prop) (h:DocP b w S A n c l k 0 sf gs qq vN vG) (hk:k<n) (hmm:many≤1000000) (hm:8≤many)
  (K0:SofC b S A n c l k 9 k sf sf0 gs qq vN vG)
  (K1:IsPC b S A n c l 1 ⟨#[101,109,105,116]⟩ k 0 sf0 gs qq vN vG false) (K6:IsPC b S A n c l 1 ⟨#[108,105,110,101]⟩ k 0 sf0 gs qq vN vG true) (K2:TexC b S A n c l T u (k+1) sf0 gs qq vN vG k2 1) (K7:GloC T z)
  (K5:ToC b S A n c l F k2 1 sf0 gs qq vN vG k5 o5 gs5)
  (hG:∀ (x:Nat),F x→G ⟨2,T.data.toList,0,0,x⟩):
  Calls Tryz.prog 38 #[.pointer (some ⟨b,0,none⟩),.int .i64 many,.int .i64 cap] w (EdgC b w S A n c l vN vG G k5 o5 sf0 gs5 (qq+1)):=by
 have H:=Lib.hid ((Cyp.start h).alloc 39 zeroEd (by simp));have hbl:=h.lt;have HK:Hid (k+1≤n):=Lib.hid hk;have hkk:k≤1000000:=by have:=h.few;omega
 have hm1:(8:Int)≤many:=by omega
 have HG:=Lib.hid hG;obtain⟨d1,d2,d4,f2⟩:=H.out.four0;clear h hk hG;go_enter Tryz.func38,Tryz.ntmps38
 go_wp2_with (first
  | (go_at_call 34;((with_reducible refine(K0.out _ H.out.rd).mono ?_));rintro e w0 ⟨rfl,hs0⟩;have H0:=Lib.hid (H.out.call hs0);clear hs0)
  | (go_at_call 36;((with_reducible refine(K1.out _ H0.out.rd).mono ?_));rintro e w1 ⟨rfl,hb1⟩;have H1:=Lib.hid (H0.out.below hb1);clear hb1)
  | (go_at_call 36;((with_reducible refine(K6.out _ H1.out.rd).mono ?_));rintro e w1 ⟨rfl,hb1⟩;have H6:=Lib.hid (H1.out.below hb1);obtain⟨x1,x2,x4,y2⟩:=H6.out.four0;clear hb1)
  | (go_at_call 64;go_must (((with_reducible refine(K2.out _ (((H6.out).place (k+1) ((k:Int)+1) (by omega) HK.out)).rd).mono ?_));rintro e w2 ⟨rfl,hs2⟩;have H2:=Lib.hid ((((H6.out).place (k+1) ((k:Int)+1) (by omega) HK.out)).call hs2);clear hs2))
  | (go_at_call 55;go_must (((with_reducible refine(K7.out _).mono ?_));rintro e w7 ⟨A7,m7,c7,x7,rfl,hb7⟩;have H7:=Lib.hid (H2.out.below hb7);have z4:=H7.out.rd.c4;clear hb7))
  | (go_at_call 66;go_must (((with_reducible refine(K5.out _ H7.out.rd).mono ?_));rintro e w5 ⟨x,v5,t5,rfl,hs5,hF5⟩;have H5:=Lib.hid (H7.out.went hs5);have HF:=Lib.hid hF5;obtain⟨g0,g1,g2,g3,g4⟩:=H5.out.box.all5;obtain⟨j0,j1,j2,j3,j4⟩:=H5.out.box.fre5;clear hs5 hF5)))
 have HE:=H5.out.put5 (.int .i64 2) (.string T) (.int .i64 0) (.int .i64 0) (.int .i64 x);obtain⟨r0,r1,r2,r3,r4⟩:=HE.box.all5;exact bodyPost_ret (v:= .agg #[.int .i64 2,.string T,.int .i64 0,.int .i64 0,.int .i64 x]) (by simp[results,Tryz.results38,go_sem,r0,r1,r2,r3,r4]) rfl ⟨_,_,_,_,_,_,_,rfl,HE.wt,HG.out _ HF.out⟩
theorem pedge_line_fine_big (b:Nat) (w:World) (S:ByteArray) (A:Option Addr) (n c:Nat) (l:List Tok) (k:Nat) (many:Nat) (cap:Int) (sf sf0:Sf) (T:ByteArray) (z:Int) (u k2:Nat) (k5 o5:Nat) (gs5:Gs) (F:Nat→Prop) (gs:Gs) (qq:Nat) (vN vG:Value) (G:EdP→Prop) (h:DocP b w S A n c l k 0 sf gs qq vN vG) (hk:k<n) (hmm:many≤1000000) (hm:8≤many)
  (K0:SofC b S A n c l k 9 k sf sf0 gs qq vN vG)
  (K1:IsPC b S A n c l 1 ⟨#[101,109,105,116]⟩ k 0 sf0 gs qq vN vG false) (K6:IsPC b S A n c l 1 ⟨#[108,105,110,101]⟩ k 0 sf0 gs qq vN vG true) (K2:TexC b S A n c l T u (k+1) sf0 gs qq vN vG k2 0) (K7:GloC T z)
  (hz:z=0)
  (K5:ToC b S A n c l F k2 0 sf0 gs qq vN vG k5 o5 gs5)
  (hG:∀ (x:Nat),F x→G ⟨2,T.data.toList,0,0,x⟩):
  Calls Tryz.prog 38 #[.pointer (some ⟨b,0,none⟩),.int .i64 many,.int .i64 cap] w (EdgC b w S A n c l vN vG G k5 o5 sf0 gs5 (qq+1)):=by
 have H:=Lib.hid ((Cyp.start h).alloc 39 zeroEd (by simp));have hbl:=h.lt;have HK:Hid (k+1≤n):=Lib.hid hk;have hkk:k≤1000000:=by have:=h.few;omega
 have hm1:(8:Int)≤many:=by omega
 have HG:=Lib.hid hG;subst hz;obtain⟨d1,d2,d4,f2⟩:=H.out.four0;clear h hk hG;go_enter Tryz.func38,Tryz.ntmps38
 go_wp2_with (first
  | (go_at_call 34;((with_reducible refine(K0.out _ H.out.rd).mono ?_));rintro e w0 ⟨rfl,hs0⟩;have H0:=Lib.hid (H.out.call hs0);clear hs0)
  | (go_at_call 36;((with_reducible refine(K1.out _ H0.out.rd).mono ?_));rintro e w1 ⟨rfl,hb1⟩;have H1:=Lib.hid (H0.out.below hb1);clear hb1)
  | (go_at_call 36;((with_reducible refine(K6.out _ H1.out.rd).mono ?_));rintro e w1 ⟨rfl,hb1⟩;have H6:=Lib.hid (H1.out.below hb1);obtain⟨x1,x2,x4,y2⟩:=H6.out.four0;clear hb1)
  | (go_at_call 64;go_must (((with_reducible refine(K2.out _ (((H6.out).place (k+1) ((k:Int)+1) (by omega) HK.out)).rd).mono ?_));rintro e w2 ⟨rfl,hs2⟩;have H2:=Lib.hid ((((H6.out).place (k+1) ((k:Int)+1) (by omega) HK.out)).call hs2);clear hs2))
  | (go_at_call 55;go_must (((with_reducible refine(K7.out _).mono ?_));rintro e w7 ⟨A7,m7,c7,x7,rfl,hb7⟩;have H7:=Lib.hid (H2.out.below hb7);have z4:=H7.out.rd.c4;clear hb7))
  | (go_at_call 66;go_must (((with_reducible refine(K5.out _ H7.out.rd).mono ?_));rintro e w5 ⟨x,v5,t5,rfl,hs5,hF5⟩;have H5:=Lib.hid (H7.out.went hs5);have HF:=Lib.hid hF5;obtain⟨g0,g1,g2,g3,g4⟩:=H5.out.box.all5;obtain⟨j0,j1,j2,j3,j4⟩:=H5.out.box.fre5;clear hs5 hF5)))
 have HE:=H5.out.put5 (.int .i64 2) (.string T) (.int .i64 0) (.int .i64 0) (.int .i64 x);obtain⟨r0,r1,r2,r3,r4⟩:=HE.box.all5;exact bodyPost_ret (v:= .agg #[.int .i64 2,.string T,.int .i64 0,.int .i64 0,.int .i64 x]) (by simp[results,Tryz.results38,go_sem,r0,r1,r2,r3,r4]) rfl ⟨_,_,_,_,_,_,_,rfl,HE.wt,HG.out _ HF.out⟩
theorem pedge_line_wrong_big (b:Nat) (w:World) (S:ByteArray) (A:Option Addr) (n c:Nat) (l:List Tok) (k:Nat) (many:Nat) (cap:Int) (sf sf0 sf2:Sf) (T:ByteArray) (z:Int) (u k2:Nat) (k5 o5:Nat) (gs5:Gs) (F:Nat→Prop) (gs:Gs) (qq:Nat) (vN vG:Value) (G:EdP→Prop) (h:DocP b w S A n c l k 0 sf gs qq vN vG) (hk:k<n) (hmm:many≤1000000) (hm:8≤many)
  (K0:SofC b S A n c l k 9 k sf sf0 gs qq vN vG)
  (K1:IsPC b S A n c l 1 ⟨#[101,109,105,116]⟩ k 0 sf0 gs qq vN vG false) (K6:IsPC b S A n c l 1 ⟨#[108,105,110,101]⟩ k 0 sf0 gs qq vN vG true) (K2:TexC b S A n c l T u (k+1) sf0 gs qq vN vG k2 0) (K7:GloC T z)
  (hz:¬ z=0) (K3:SofC b S A n c l u 5 k2 sf0 sf2 gs qq vN vG)
  (K5:ToC b S A n c l F k2 0 sf2 gs qq vN vG k5 o5 gs5)
  (hG:∀ (x:Nat),F x→G ⟨2,T.data.toList,0,0,x⟩):
  Calls Tryz.prog 38 #[.pointer (some ⟨b,0,none⟩),.int .i64 many,.int .i64 cap] w (EdgC b w S A n c l vN vG G k5 o5 sf2 gs5 (qq+1)):=by
 have H:=Lib.hid ((Cyp.start h).alloc 39 zeroEd (by simp));have hbl:=h.lt;have HK:Hid (k+1≤n):=Lib.hid hk;have hkk:k≤1000000:=by have:=h.few;omega
 have hm1:(8:Int)≤many:=by omega
 have HG:=Lib.hid hG;have hz1:(z==0)=false:=by simpa using hz
 have hz2:(z != 0)=true:=by simpa using hz
 obtain⟨d1,d2,d4,f2⟩:=H.out.four0;clear h hk hG hz;go_enter Tryz.func38,Tryz.ntmps38
 go_wp2_with (first
  | (go_at_call 34;((with_reducible refine(K0.out _ H.out.rd).mono ?_));rintro e w0 ⟨rfl,hs0⟩;have H0:=Lib.hid (H.out.call hs0);clear hs0)
  | (go_at_call 36;((with_reducible refine(K1.out _ H0.out.rd).mono ?_));rintro e w1 ⟨rfl,hb1⟩;have H1:=Lib.hid (H0.out.below hb1);clear hb1)
  | (go_at_call 36;((with_reducible refine(K6.out _ H1.out.rd).mono ?_));rintro e w1 ⟨rfl,hb1⟩;have H6:=Lib.hid (H1.out.below hb1);obtain⟨x1,x2,x4,y2⟩:=H6.out.four0;clear hb1)
  | (go_at_call 64;go_must (((with_reducible refine(K2.out _ (((H6.out).place (k+1) ((k:Int)+1) (by omega) HK.out)).rd).mono ?_));rintro e w2 ⟨rfl,hs2⟩;have H2:=Lib.hid ((((H6.out).place (k+1) ((k:Int)+1) (by omega) HK.out)).call hs2);clear hs2))
  | (go_at_call 55;go_must (((with_reducible refine(K7.out _).mono ?_));rintro e w7 ⟨A7,m7,c7,x7,rfl,hb7⟩;have H7:=Lib.hid (H2.out.below hb7);have z4:=H7.out.rd.c4;clear hb7))
  | (go_at_call 34;go_must (((with_reducible refine(K3.out _ H7.out.rd).mono ?_));rintro e w3 ⟨rfl,hs3⟩;have H3:=Lib.hid (H7.out.call hs3);clear hs3))
  | (go_at_call 66;go_must (((with_reducible refine(K5.out _ H3.out.rd).mono ?_));rintro e w5 ⟨x,v5,t5,rfl,hs5,hF5⟩;have H5:=Lib.hid (H3.out.went hs5);have HF:=Lib.hid hF5;obtain⟨g0,g1,g2,g3,g4⟩:=H5.out.box.all5;obtain⟨j0,j1,j2,j3,j4⟩:=H5.out.box.fre5;clear hs5 hF5)))
 have HE:=H5.out.put5 (.int .i64 2) (.string T) (.int .i64 0) (.int .i64 0) (.int .i64 x);obtain⟨r0,r1,r2,r3,r4⟩:=HE.box.all5;exact bodyPost_ret (v:= .agg #[.int .i64 2,.string T,.int .i64 0,.int .i64 0,.int .i64 x]) (by simp[results,Tryz.results38,go_sem,r0,r1,r2,r3,r4]) rfl ⟨_,_,_,_,_,_,_,rfl,HE.wt,HG.out _ HF.out⟩
theorem pedge_shut_few (b:Nat) (w:World) (S:ByteArray) (A:Option Addr) (n c:Nat) (l:List Tok) (k:Nat) (many:Nat) (cap:Int) (sf:Sf) (k1 o1:Nat) (R4:Rp (Int × Int)) (gs:Gs) (qq:Nat) (vN vG:Value) (G:EdP→Prop) (h:DocP b w S A n c l k 0 sf gs qq vN vG) (hk:k<n) (hmm:many≤1000000) (hm:¬ 8≤many)
  (K1:IsPC b S A n c l 1 ⟨#[101,109,105,116]⟩ k 0 sf gs qq vN vG false) (K6:IsPC b S A n c l 1 ⟨#[108,105,110,101]⟩ k 0 sf gs qq vN vG false) (K2:NeeP b S A n c l 1 ⟨#[115,104,117,116]⟩ k 0 k1 o1 sf gs qq vN vG)
  (K4:DelP b S A n c l k1 o1 R4 sf gs qq vN vG)
  (hG:∀ (lo hi:Int),(∀ d j s g,R4= .ok d j s g→d=(lo,hi))→G ⟨3,[],lo,hi,0⟩):
  Calls Tryz.prog 38 #[.pointer (some ⟨b,0,none⟩),.int .i64 many,.int .i64 cap] w (EdgC b w S A n c l vN vG G R4.at R4.err (sf++R4.sfs) gs qq):=by
 have H:=Lib.hid ((Cyp.start h).alloc 39 zeroEd (by simp));have hbl:=h.lt;have HK:Hid (k+1≤n):=Lib.hid hk;have hkk:k≤1000000:=by have:=h.few;omega
 have hm1:¬ (8:Int)≤many:=by omega
 have HG:=Lib.hid hG;obtain⟨d1,d2,d4,f2⟩:=H.out.four0;clear h hk hG;go_enter Tryz.func38,Tryz.ntmps38
 go_wp2_with (first
  | (go_at_call 36;((with_reducible refine(K1.out _ H.out.rd).mono ?_));rintro e w1 ⟨rfl,hb1⟩;have H1:=Lib.hid (H.out.below hb1);clear hb1)
  | (go_at_call 36;((with_reducible refine(K6.out _ H1.out.rd).mono ?_));rintro e w1 ⟨rfl,hb1⟩;have H6:=Lib.hid (H1.out.below hb1);clear hb1)
  | (go_at_call 32;go_must (((with_reducible refine(K2.out _ H6.out.rd).mono ?_));rintro e w2 ⟨rfl,hs2⟩;have H2:=Lib.hid (H6.out.call hs2);clear hs2))
  | (go_at_call 65;go_must (((with_reducible refine(K4.out _ H2.out.rd).mono ?_));rintro e w4 ⟨lo,hi,rfl,hs4,hy4⟩;have H4:=Lib.hid (H2.out.call hs4);have HY:=Lib.hid hy4;obtain⟨q0,q1,q2⟩:=H4.out.one;obtain⟨g0,g1,g2,g3,g4⟩:=(H4.out.box 0 w.heap.size zeroEd rfl).all5;obtain⟨j0,j1,j2,j3,j4⟩:=(H4.out.box 0 w.heap.size zeroEd rfl).fre5;clear hs4 hy4)))
 have HE:=H4.out.put5 0 w.heap.size _ _ _ _ _ rfl (.int .i64 3) (.string ⟨#[]⟩) (.int .i64 lo) (.int .i64 hi) (.int .i64 0);obtain⟨r0,r1,r2,r3,r4⟩:=(HE.box 0 w.heap.size _ rfl).all5;exact bodyPost_ret (v:= .agg #[.int .i64 3,.string ⟨#[]⟩,.int .i64 lo,.int .i64 hi,.int .i64 0]) (by simp[results,Tryz.results38,go_sem,r0,r1,r2,r3,r4]) rfl ⟨_,_,_,_,_,_,_,rfl,WentP.of HE.step,HG.out _ _ HY.out⟩
theorem pedge_shut_big (b:Nat) (w:World) (S:ByteArray) (A:Option Addr) (n c:Nat) (l:List Tok) (k:Nat) (many:Nat) (cap:Int) (sf sf0:Sf) (k1 o1:Nat) (R4:Rp (Int × Int)) (gs:Gs) (qq:Nat) (vN vG:Value) (G:EdP→Prop) (h:DocP b w S A n c l k 0 sf gs qq vN vG) (hk:k<n) (hmm:many≤1000000) (hm:8≤many)
  (K0:SofC b S A n c l k 9 k sf sf0 gs qq vN vG)
  (K1:IsPC b S A n c l 1 ⟨#[101,109,105,116]⟩ k 0 sf0 gs qq vN vG false) (K6:IsPC b S A n c l 1 ⟨#[108,105,110,101]⟩ k 0 sf0 gs qq vN vG false) (K2:NeeP b S A n c l 1 ⟨#[115,104,117,116]⟩ k 0 k1 o1 sf0 gs qq vN vG)
  (K4:DelP b S A n c l k1 o1 R4 sf0 gs qq vN vG)
  (hG:∀ (lo hi:Int),(∀ d j s g,R4= .ok d j s g→d=(lo,hi))→G ⟨3,[],lo,hi,0⟩):
  Calls Tryz.prog 38 #[.pointer (some ⟨b,0,none⟩),.int .i64 many,.int .i64 cap] w (EdgC b w S A n c l vN vG G R4.at R4.err (sf0++R4.sfs) gs qq):=by
 have H:=Lib.hid ((Cyp.start h).alloc 39 zeroEd (by simp));have hbl:=h.lt;have HK:Hid (k+1≤n):=Lib.hid hk;have hkk:k≤1000000:=by have:=h.few;omega
 have hm1:(8:Int)≤many:=by omega
 have HG:=Lib.hid hG;obtain⟨d1,d2,d4,f2⟩:=H.out.four0;clear h hk hG;go_enter Tryz.func38,Tryz.ntmps38
 go_wp2_with (first
  | (go_at_call 34;((with_reducible refine(K0.out _ H.out.rd).mono ?_));rintro e w0 ⟨rfl,hs0⟩;have H0:=Lib.hid (H.out.call hs0);clear hs0)
  | (go_at_call 36;((with_reducible refine(K1.out _ H0.out.rd).mono ?_));rintro e w1 ⟨rfl,hb1⟩;have H1:=Lib.hid (H0.out.below hb1);clear hb1)
  | (go_at_call 36;((with_reducible refine(K6.out _ H1.out.rd).mono ?_));rintro e w1 ⟨rfl,hb1⟩;have H6:=Lib.hid (H1.out.below hb1);clear hb1)
  | (go_at_call 32;go_must (((with_reducible refine(K2.out _ H6.out.rd).mono ?_));rintro e w2 ⟨rfl,hs2⟩;have H2:=Lib.hid (H6.out.call hs2);clear hs2))
  | (go_at_call 65;go_must (((with_reducible refine(K4.out _ H2.out.rd).mono ?_));rintro e w4 ⟨lo,hi,rfl,hs4,hy4⟩;have H4:=Lib.hid (H2.out.call hs4);have HY:=Lib.hid hy4;obtain⟨q0,q1,q2⟩:=H4.out.one;obtain⟨g0,g1,g2,g3,g4⟩:=(H4.out.box 0 w.heap.size zeroEd rfl).all5;obtain⟨j0,j1,j2,j3,j4⟩:=(H4.out.box 0 w.heap.size zeroEd rfl).fre5;clear hs4 hy4)))
 have HE:=H4.out.put5 0 w.heap.size _ _ _ _ _ rfl (.int .i64 3) (.string ⟨#[]⟩) (.int .i64 lo) (.int .i64 hi) (.int .i64 0);obtain⟨r0,r1,r2,r3,r4⟩:=(HE.box 0 w.heap.size _ rfl).all5;exact bodyPost_ret (v:= .agg #[.int .i64 3,.string ⟨#[]⟩,.int .i64 lo,.int .i64 hi,.int .i64 0]) (by simp[results,Tryz.results38,go_sem,r0,r1,r2,r3,r4]) rfl ⟨_,_,_,_,_,_,_,rfl,WentP.of HE.step,HG.out _ _ HY.out⟩
end Go.Proofs.YtdobinjbejagcaaGreatDoor
