import Derived.Test.YtdobinjbejagcaaGreatDoorPd5
import Derived.Maps.AppendAt
import Derived.Deep.AppendLies
namespace Go.Proofs.YtdobinjbejagcaaGreatDoor
open Go Go.RowKit
set_option maxRecDepth 100000
set_option maxHeartbeats 4000000
def Rp.sfs {α:Type}:Rp α→Sf | .ok _ _ s _=>s | .bad _=>[]
abbrev TakY (b:Nat) (S:ByteArray) (A:Option Addr) (n c:Nat) (l:List Tok) (kd:Int) (T:ByteArray) (N pl:Int) (m k:Nat) (sf:Sf) (gs:Gs) (qq:Nat) (vN vG:Value):Prop:=Hid (∀ w',DocP b w' S A n c l k 0 sf gs qq vN vG→Calls Tryz.prog 33 #[.pointer (some ⟨b,0,none⟩),.int .i64 kd] w' fun e w2=>
 ∃ (A':Option Addr) (c':Nat),e= .returned (.tuple #[.agg #[.int .i64 kd,.string T,.int .i64 N,.slice A' m c',.int .i64 pl],.int .i64 k])∧StepP b w' S A n c l (k+1) 0 sf gs qq vN vG w2)
theorem takY (b:Nat) (S:ByteArray) (A:Option Addr) (n c:Nat) (l:List Tok) (kd:Int) (hkd:kd≠0) (k:Nat) (hk:(nxp l k).kind=kd) (sf:Sf) (gs:Gs) (qq:Nat) (vN vG:Value):TakY b S A n c l kd ⟨(nxp l k).word.toArray⟩ (nxp l k).n (nxp l k).pl (nxp l k).parts.length k sf gs qq vN vG:=Lib.hid fun w' h=>by
 have e1:gateR 0 k (takeP l kd k)= .ok (nxp l k) (k+1) [] []:=by show takeP l kd k=_;unfold takeP;rw[if_pos hk]
 exact((takP b S A n c l kd hkd k 0 sf gs qq vN vG e1).out w' h).mono fun e w2 ⟨t,A',c',u,h1,h2,h3,_⟩=>by
  obtain⟨rfl,rfl⟩:=h3 _ _ _ _ rfl;exact⟨A',c',by rw[h1,hk],h2⟩
abbrev TakN (b:Nat) (S:ByteArray) (A:Option Addr) (n c:Nat) (l:List Tok) (kd:Int) (k o:Nat) (sf:Sf) (gs:Gs) (qq:Nat) (vN vG:Value):Prop:=Hid (∀ w',DocP b w' S A n c l k o sf gs qq vN vG→Calls Tryz.prog 33 #[.pointer (some ⟨b,0,none⟩),.int .i64 kd] w' fun e w2=>
 ∃ (A':Option Addr) (c':Nat),e= .returned (.tuple #[.agg #[.int .i64 0,.string ⟨#[]⟩,.int .i64 0,.slice A' 0 c',.int .i64 0],.int .i64 0])∧StepP b w' S A n c l k 1 sf gs qq vN vG w2)
theorem takN (b:Nat) (S:ByteArray) (A:Option Addr) (n c:Nat) (l:List Tok) (kd:Int) (hkd:kd≠0) (k o:Nat) (hk:o=0→¬ (nxp l k).kind=kd) (sf:Sf) (gs:Gs) (qq:Nat) (vN vG:Value):TakN b S A n c l kd k o sf gs qq vN vG:=Lib.hid fun w' h=>by
 have e1:gateR o k (takeP l kd k)= .bad k:=by
  unfold gateR
  split
  ·rename_i o0;unfold takeP;rw[if_neg (hk o0)]
  ·rfl
 exact((takP b S A n c l kd hkd k o sf gs qq vN vG e1).out w' h).mono fun e w2 ⟨t,A',c',u,h1,h2,_,h4⟩=>by
  obtain⟨rfl,rfl⟩:=h4 Rp.bad_ne;exact⟨A',c',h1,h2⟩
theorem psmall_no (b:Nat) (w:World) (S:ByteArray) (A:Option Addr) (n c:Nat) (l:List Tok) (k o:Nat) (sf:Sf) (gs:Gs) (qq:Nat) (vN vG:Value) (h:DocP b w S A n c l k o sf gs qq vN vG) (KT:TakN b S A n c l 2 k o sf gs qq vN vG):
  Calls Tryz.prog 103 #[.pointer (some ⟨b,0,none⟩),.int .i64 9] w fun e w2=>e= .returned (.tuple #[.int .i64 0,.int .i64 0])∧StepP b w S A n c l k 1 sf gs qq vN vG w2:=by
 have H:=Lib.hid (Cyp.start h);have hbl:=h.lt;clear h;go_enter Tryz.func103,Tryz.ntmps103;go_wp2_with (go_at_call 33;go_must (((with_reducible refine(KT.out _ H.out.rd).mono ?_));rintro e w2 ⟨A2,c2,rfl,hs2⟩;have HD:=Lib.hid (H.out.call hs2);clear hs2));have HE:=HD.out.alloc 48 [.int .i64 0,.string ⟨#[]⟩,.int .i64 0,.slice A2 0 c2,.int .i64 0] (by simp)
 go_ret2
 exact⟨rfl,HE.step⟩
theorem psmall_yes (b:Nat) (w:World) (S:ByteArray) (A:Option Addr) (n c:Nat) (l:List Tok) (k:Nat) (T:ByteArray) (N pl:Int) (m:Nat) (sf:Sf) (gs:Gs) (qq:Nat) (vN vG:Value) (h:DocP b w S A n c l k 0 sf gs qq vN vG) (hN:¬ 9<N) (KT:TakY b S A n c l 2 T N pl m k sf gs qq vN vG):
  Calls Tryz.prog 103 #[.pointer (some ⟨b,0,none⟩),.int .i64 9] w fun e w2=>e= .returned (.tuple #[.int .i64 N,.int .i64 k])∧StepP b w S A n c l (k+1) 0 sf gs qq vN vG w2:=by
 have H:=Lib.hid (Cyp.start h);have hbl:=h.lt;have hN2:N≤9:=by omega
 clear h;go_enter Tryz.func103,Tryz.ntmps103;go_wp2_with (go_at_call 33;go_must (((with_reducible refine(KT.out _ H.out.rd).mono ?_));rintro e w2 ⟨A2,c2,rfl,hs2⟩;have HD:=Lib.hid (H.out.call hs2);clear hs2));have HE:=HD.out.alloc 48 [.int .i64 2,.string T,.int .i64 N,.slice A2 m c2,.int .i64 pl] (by simp)
 go_ret2
 exact⟨rfl,HE.step⟩
theorem psmall_big (b:Nat) (w:World) (S:ByteArray) (A:Option Addr) (n c:Nat) (l:List Tok) (k:Nat) (T:ByteArray) (N pl:Int) (m:Nat) (sf:Sf) (gs:Gs) (qq:Nat) (vN vG:Value) (h:DocP b w S A n c l k 0 sf gs qq vN vG) (hN:9<N) (KT:TakY b S A n c l 2 T N pl m k sf gs qq vN vG) (KS:SofP b S A n c l k 2 (k+1) 0 sf gs qq vN vG):
  Calls Tryz.prog 103 #[.pointer (some ⟨b,0,none⟩),.int .i64 9] w fun e w2=>e= .returned (.tuple #[.int .i64 9,.int .i64 k])∧StepP b w S A n c l (k+1) 0 (sf++[(k,2)]) gs qq vN vG w2:=by
 have H:=Lib.hid (Cyp.start h);have hbl:=h.lt;clear h;go_enter Tryz.func103,Tryz.ntmps103;go_wp2_with (first | (go_at_call 33;go_must (((with_reducible refine(KT.out _ H.out.rd).mono ?_));rintro e w2 ⟨A2,c2,rfl,hs2⟩;have HD:=Lib.hid ((H.out.call hs2).alloc 48 [.int .i64 2,.string T,.int .i64 N,.slice A2 m c2,.int .i64 pl] (by simp));clear hs2)) | (go_at_call 34;go_must (((with_reducible refine(KS.out _ HD.out.rd).mono ?_));rintro e w3 ⟨rfl,hs3⟩;have HE:=Lib.hid (HD.out.call hs3);clear hs3)))
 go_ret2
 exact⟨rfl,HE.out.step⟩
abbrev SmaP (b:Nat) (S:ByteArray) (A:Option Addr) (n c:Nat) (l:List Tok) (k o:Nat) (R:Rp Int) (sf:Sf) (gs:Gs) (qq:Nat) (vN vG:Value):Prop:=Hid (∀ w',DocP b w' S A n c l k o sf gs qq vN vG→Calls Tryz.prog 103 #[.pointer (some ⟨b,0,none⟩),.int .i64 9] w' fun e w2=>
 ∃ (x:Int) (u:Nat),e= .returned (.tuple #[.int .i64 x,.int .i64 u])∧StepP b w' S A n c l R.at R.err (sf++R.sfs) gs qq vN vG w2∧(∀ y j s g,R= .ok y j s g→y=x∧u=k)∧((∀ y j s g,R≠ .ok y j s g)→x=0∧u=0))
theorem smaP (b:Nat) (S:ByteArray) (A:Option Addr) (n c:Nat) (l:List Tok) (k o:Nat) (sf:Sf) (gs:Gs) (qq:Nat) (vN vG:Value) {R:Rp Int} (hR:gateR o k (smlP l k)=R):SmaP b S A n c l k o R sf gs qq vN vG:=Lib.hid fun w' h=>by
 subst hR;by_cases e1:o=0∧(nxp l k).kind=2
 ·obtain⟨rfl,e1⟩:=e1
  have hk:k<l.length:=nxp_lt (by omega);have et:takeP l 2 k= .ok (nxp l k) (k+1) [] []:=by unfold takeP;rw[if_pos e1]
  have KT:=takY b S A n c l 2 (by decide) k e1 sf gs qq vN vG;by_cases hN:9<(nxp l k).n
  ·have eR:gateR 0 k (smlP l k)= .ok 9 (k+1) [(k,2)] []:=by
    show smlP l k=_;unfold smlP;rw[et];simp only[Rp.then,Rp.met,if_pos hN,decide_eq_true hN,List.nil_append,List.append_nil,if_true]
   rw[eR];have KS:=sofP b S A n c l k 2 (by decide) (k+1) 0 (fun _=>by have:=h.len;omega) sf gs qq vN vG;exact(psmall_big b w' S A n c l k _ _ _ _ sf gs qq vN vG h hN KT KS).mono fun e w2 ⟨h1,h2⟩=>⟨9,k,h1,h2,fun _ _ _ _ hy=>(by injection hy with hy;exact⟨hy.symm,rfl⟩),fun hn=>absurd rfl (hn _ _ _ _)⟩
  ·have eR:gateR 0 k (smlP l k)= .ok (nxp l k).n (k+1) [] []:=by
    show smlP l k=_;unfold smlP;rw[et];simp only[Rp.then,Rp.met,if_neg hN,decide_eq_false hN,List.nil_append,Bool.false_eq_true,if_false]
   rw[eR];exact(psmall_yes b w' S A n c l k _ _ _ _ sf gs qq vN vG h hN KT).mono fun e w2 ⟨h1,h2⟩=>⟨_,k,h1,by rw[show (Rp.ok (nxp l k).n (k+1) [] []:Rp Int).sfs=[] from rfl,List.append_nil];exact h2,fun _ _ _ _ hy=>(by injection hy with hy;exact⟨hy.symm,rfl⟩),fun hn=>absurd rfl (hn _ _ _ _)⟩
 ·have eR:gateR o k (smlP l k)= .bad k:=by
   unfold gateR
   split
   ·rename_i o0
    have:takeP l 2 k= .bad k:=by unfold takeP;rw[if_neg fun e=>e1 ⟨o0,e⟩]
    unfold smlP;rw[this];rfl
   ·rfl
  rw[eR];have KT:=takN b S A n c l 2 (by decide) k o (fun o0 e=>e1 ⟨o0,e⟩) sf gs qq vN vG;exact(psmall_no b w' S A n c l k o sf gs qq vN vG h KT).mono fun e w2 ⟨h1,h2⟩=>⟨0,0,h1,by rw[show (Rp.bad k:Rp Int).sfs=[] from rfl,List.append_nil];exact h2,fun _ _ _ _ hy=>(by cases hy),fun _=>⟨rfl,rfl⟩⟩
theorem pdelay_bad (b:Nat) (w:World) (S:ByteArray) (A:Option Addr) (n c:Nat) (l:List Tok) (k o k1 o1 k4:Nat) (R2:Rp Int) (sf:Sf) (gs:Gs) (qq:Nat) (vN vG:Value) (h:DocP b w S A n c l k o sf gs qq vN vG) (K1:NeeP b S A n c l 1 ⟨#[97,102,116,101,114]⟩ k o k1 o1 sf gs qq vN vG)
  (K2:SmaP b S A n c l k1 o1 R2 sf gs qq vN vG) (K3:IsPC b S A n c l 1 ⟨#[101,118,101,114]⟩ R2.at R2.err (sf++R2.sfs) gs qq vN vG false) (K4:SmaP b S A n c l R2.at R2.err (.bad k4) (sf++R2.sfs) gs qq vN vG):
  Calls Tryz.prog 65 #[.pointer (some ⟨b,0,none⟩)] w fun e w2=>∃ x y:Int,e= .returned (.tuple #[.int .i64 x,.int .i64 y])∧StepP b w S A n c l k4 1 (sf++R2.sfs) gs qq vN vG w2:=by
 have H:=Lib.hid (Cyp.start h);have hbl:=h.lt;clear h;go_enter Tryz.func65,Tryz.ntmps65
 go_wp2_with (first
  | (go_at_call 32;go_must (((with_reducible refine(K1.out _ H.out.rd).mono ?_));rintro e w1 ⟨rfl,hs1⟩;have H1:=Lib.hid (H.out.call hs1);clear hs1))
  | (go_at_call 36;go_must (((with_reducible refine(K3.out _ H2.out.rd).mono ?_));rintro e w3 ⟨rfl,hb3⟩;have H3:=Lib.hid (H2.out.below hb3);clear hb3))
  | (go_at_call 103;go_must (first | (((with_reducible refine(K2.out _ H1.out.rd).mono ?_));rintro e w2 ⟨x,u,rfl,hs2,hy2,hz2⟩;have H2:=Lib.hid (H1.out.call hs2);clear hs2 hy2 hz2) | (((with_reducible refine(K4.out _ H3.out.rd).mono ?_));rintro e w4 ⟨x4,u4,rfl,hs4,hy4,hz4⟩;have H4:=Lib.hid (H3.out.call hs4);have d4:w4.cell? ⟨b,4,none⟩=some (.int .i64 1):=H4.out.rd.c4;have d1:=H4.out.rd.c1;clear hs4 hy4 hz4))))
 go_ret2
 exact⟨_,_,rfl,H4.out.gr,H4.out.rd.noting _ fun e=>by cases e⟩
abbrev SmaY (b:Nat) (S:ByteArray) (A:Option Addr) (n c:Nat) (l:List Tok) (k:Nat) (x:Int) (k2:Nat) (sf sf2:Sf) (gs:Gs) (qq:Nat) (vN vG:Value):Prop:=Hid (∀ w',DocP b w' S A n c l k 0 sf gs qq vN vG→Calls Tryz.prog 103 #[.pointer (some ⟨b,0,none⟩),.int .i64 9] w' fun e w2=>e= .returned (.tuple #[.int .i64 x,.int .i64 k])∧StepP b w' S A n c l k2 0 sf2 gs qq vN vG w2)
theorem smaY (b:Nat) (S:ByteArray) (A:Option Addr) (n c:Nat) (l:List Tok) {k:Nat} {x:Int} {k2:Nat} {s:Sf} {g:Gs} (hR:smlP l k= .ok x k2 s g) {sf sf2:Sf} (h2:sf++s=sf2) (gs:Gs) (qq:Nat) (vN vG:Value):SmaY b S A n c l k x k2 sf sf2 gs qq vN vG:=Lib.hid fun w' h=>by
 subst h2;have e1:gateR 0 k (smlP l k)= .ok x k2 s g:=hR
 exact((smaP b S A n c l k 0 sf gs qq vN vG e1).out w' h).mono fun e w2 ⟨y,u,h1,h3,h4,_⟩=>by
  obtain⟨rfl,rfl⟩:=h4 _ _ _ _ rfl;exact⟨h1,h3⟩
theorem pdelay_ever (b:Nat) (w:World) (S:ByteArray) (A:Option Addr) (n c:Nat) (l:List Tok) (k k1 k2:Nat) (lo:Int) (sf sf2:Sf) (gs:Gs) (qq:Nat) (vN vG:Value) (h:DocP b w S A n c l k 0 sf gs qq vN vG) (K1:NeeP b S A n c l 1 ⟨#[97,102,116,101,114]⟩ k 0 k1 0 sf gs qq vN vG)
  (K2:SmaY b S A n c l k1 lo k2 sf sf2 gs qq vN vG) (K3:IsPC b S A n c l 1 ⟨#[101,118,101,114]⟩ k2 0 sf2 gs qq vN vG true) (hk:k2<n):
  Calls Tryz.prog 65 #[.pointer (some ⟨b,0,none⟩)] w fun e w2=>e= .returned (.tuple #[.int .i64 lo,.int .i64 (-1)])∧StepP b w S A n c l (k2+1) 0 sf2 gs qq vN vG w2:=by
 have H:=Lib.hid (Cyp.start h);have hbl:=h.lt;have HK:Hid (k2+1≤n):=Lib.hid hk;have hk2:k2≤1000000:=by have:=h.few;omega
 clear h hk;go_enter Tryz.func65,Tryz.ntmps65
 go_wp2_with (first
  | (go_at_call 32;go_must (((with_reducible refine(K1.out _ H.out.rd).mono ?_));rintro e w1 ⟨rfl,hs1⟩;have H1:=Lib.hid (H.out.call hs1);clear hs1))
  | (go_at_call 103;go_must (((with_reducible refine(K2.out _ H1.out.rd).mono ?_));rintro e w2 ⟨rfl,hs2⟩;have H2:=Lib.hid (H1.out.call hs2);clear hs2))
  | (go_at_call 36;go_must (((with_reducible refine(K3.out _ H2.out.rd).mono ?_));rintro e w3 ⟨rfl,hb3⟩;have H3:=Lib.hid (H2.out.below hb3);obtain⟨d1,d2,d4,f2⟩:=H3.out.four0;clear hb3)))
 go_ret2
 exact⟨rfl,(H3.out.place (k2+1) ((k2:Int)+1) (by omega) HK.out).step⟩
theorem pdelay_two (b:Nat) (w:World) (S:ByteArray) (A:Option Addr) (n c:Nat) (l:List Tok) (k k1 k2 k4:Nat) (lo hi:Int) (sf sf2 sf4:Sf) (gs:Gs) (qq:Nat) (vN vG:Value) (t:Tok) (ht:l[k2]?=some t) (h:DocP b w S A n c l k 0 sf gs qq vN vG) (K1:NeeP b S A n c l 1 ⟨#[97,102,116,101,114]⟩ k 0 k1 0 sf gs qq vN vG)
  (K2:SmaY b S A n c l k1 lo k2 sf sf2 gs qq vN vG) (K3:IsPC b S A n c l 1 ⟨#[101,118,101,114]⟩ k2 0 sf2 gs qq vN vG false) (K4:SmaY b S A n c l k2 hi k4 sf2 sf4 gs qq vN vG) (hno:¬ (hi<lo∧t.n≤9)):
  Calls Tryz.prog 65 #[.pointer (some ⟨b,0,none⟩)] w fun e w2=>e= .returned (.tuple #[.int .i64 lo,.int .i64 hi])∧StepP b w S A n c l k4 0 sf4 gs qq vN vG w2:=by
 have H:=Lib.hid (Cyp.start h);have hbl:=h.lt;have hl:=h.len;have hk:=(List.getElem?_eq_some_iff.1 ht).1;have hk1:(k2:Int)<n:=by omega
 have hk2:k2≤1000000:=by omega
 have hn2:n≤1000000:=by omega
 have hA:=h.row.at_ ht
 obtain⟨ad,A',c',rfl, -, -⟩:=hA
 have HX:Hid (∀ W k o sf,DocP b W S (some ad) n c l k o sf gs qq vN vG→W.cell? (Addr.mk (ad.add (k2 * 5)).block ((ad.add (k2 * 5)).off+2) none)=some (.int .i64 t.n)):=Lib.hid fun W k o sf h'=>by
  obtain⟨ad2,A2,c2,e2,h5,_⟩:=h'.row.at_ ht
  injection e2 with e2
  subst e2;exact h5.2.2.1
 generalize t.n=N at HX hno;clear h hk ht hl;by_cases hlt:hi<lo
 ·have hN:¬ N≤9:=fun e=>hno ⟨hlt,e⟩
  clear hno;go_enter Tryz.func65,Tryz.ntmps65
  go_wp2_with (first
   | (go_at_call 32;go_must (((with_reducible refine(K1.out _ H.out.rd).mono ?_));rintro e w1 ⟨rfl,hs1⟩;have H1:=Lib.hid (H.out.call hs1);clear hs1))
   | (go_at_call 36;go_must (((with_reducible refine(K3.out _ H2.out.rd).mono ?_));rintro e w3 ⟨rfl,hb3⟩;have H3:=Lib.hid (H2.out.below hb3);clear hb3))
   | (go_at_call 103;go_must (first | (((with_reducible refine(K2.out _ H1.out.rd).mono ?_));rintro e w2 ⟨rfl,hs2⟩;have H2:=Lib.hid (H1.out.call hs2);clear hs2) | (((with_reducible refine(K4.out _ H3.out.rd).mono ?_));rintro e w4 ⟨rfl,hs4⟩;have H4:=Lib.hid (H3.out.call hs4);obtain⟨d1,d2,d4,f2⟩:=H4.out.four0;have x2:=HX.out _ _ _ _ H4.out.rd;clear hs4))))
  go_ret2
  exact⟨rfl,H4.out.step⟩
 ·clear hno
  go_enter Tryz.func65,Tryz.ntmps65
  go_wp2_with (first
   | (go_at_call 32;go_must (((with_reducible refine(K1.out _ H.out.rd).mono ?_));rintro e w1 ⟨rfl,hs1⟩;have H1:=Lib.hid (H.out.call hs1);clear hs1))
   | (go_at_call 36;go_must (((with_reducible refine(K3.out _ H2.out.rd).mono ?_));rintro e w3 ⟨rfl,hb3⟩;have H3:=Lib.hid (H2.out.below hb3);clear hb3))
   | (go_at_call 103;go_must (first | (((with_reducible refine(K2.out _ H1.out.rd).mono ?_));rintro e w2 ⟨rfl,hs2⟩;have H2:=Lib.hid (H1.out.call hs2);clear hs2) | (((with_reducible refine(K4.out _ H3.out.rd).mono ?_));rintro e w4 ⟨rfl,hs4⟩;have H4:=Lib.hid (H3.out.call hs4);obtain⟨d1,d2,d4,f2⟩:=H4.out.four0;clear hs4))))
  go_ret2
  exact⟨rfl,H4.out.step⟩
theorem pdelay_less (b:Nat) (w:World) (S:ByteArray) (A:Option Addr) (n c:Nat) (l:List Tok) (k k1 k2 k4:Nat) (lo hi:Int) (sf sf2 sf4:Sf) (gs:Gs) (qq:Nat) (vN vG:Value) (t:Tok) (ht:l[k2]?=some t) (h:DocP b w S A n c l k 0 sf gs qq vN vG) (K1:NeeP b S A n c l 1 ⟨#[97,102,116,101,114]⟩ k 0 k1 0 sf gs qq vN vG)
  (K2:SmaY b S A n c l k1 lo k2 sf sf2 gs qq vN vG) (K3:IsPC b S A n c l 1 ⟨#[101,118,101,114]⟩ k2 0 sf2 gs qq vN vG false) (K4:SmaY b S A n c l k2 hi k4 sf2 sf4 gs qq vN vG) (hlt:hi<lo) (hN:t.n≤9) (K5:SofP b S A n c l k2 5 k4 0 sf4 gs qq vN vG):
  Calls Tryz.prog 65 #[.pointer (some ⟨b,0,none⟩)] w fun e w2=>e= .returned (.tuple #[.int .i64 lo,.int .i64 hi])∧StepP b w S A n c l k4 0 (sf4++[(k2,5)]) gs qq vN vG w2:=by
 have H:=Lib.hid (Cyp.start h);have hbl:=h.lt;have hl:=h.len;have hk:=(List.getElem?_eq_some_iff.1 ht).1;have hk1:(k2:Int)<n:=by omega
 have hk2:k2≤1000000:=by omega
 have hn2:n≤1000000:=by omega
 have hA:=h.row.at_ ht
 obtain⟨ad,A',c',rfl, -, -⟩:=hA
 have HX:Hid (∀ W k o sf,DocP b W S (some ad) n c l k o sf gs qq vN vG→W.cell? (Addr.mk (ad.add (k2 * 5)).block ((ad.add (k2 * 5)).off+2) none)=some (.int .i64 t.n)):=Lib.hid fun W k o sf h'=>by
  obtain⟨ad2,A2,c2,e2,h5,_⟩:=h'.row.at_ ht
  injection e2 with e2
  subst e2;exact h5.2.2.1
 generalize t.n=N at HX hN;clear h hk ht hl;go_enter Tryz.func65,Tryz.ntmps65
 go_wp2_with (first
  | (go_at_call 34;go_must (((with_reducible refine(K5.out _ H4.out.rd).mono ?_));rintro e w5 ⟨rfl,hs5⟩;have H5:=Lib.hid (H4.out.call hs5);clear hs5))
  | (go_at_call 32;go_must (((with_reducible refine(K1.out _ H.out.rd).mono ?_));rintro e w1 ⟨rfl,hs1⟩;have H1:=Lib.hid (H.out.call hs1);clear hs1))
  | (go_at_call 36;go_must (((with_reducible refine(K3.out _ H2.out.rd).mono ?_));rintro e w3 ⟨rfl,hb3⟩;have H3:=Lib.hid (H2.out.below hb3);clear hb3))
  | (go_at_call 103;go_must (first | (((with_reducible refine(K2.out _ H1.out.rd).mono ?_));rintro e w2 ⟨rfl,hs2⟩;have H2:=Lib.hid (H1.out.call hs2);clear hs2) | (((with_reducible refine(K4.out _ H3.out.rd).mono ?_));rintro e w4 ⟨rfl,hs4⟩;have H4:=Lib.hid (H3.out.call hs4);obtain⟨d1,d2,d4,f2⟩:=H4.out.four0;have x2:=HX.out _ _ _ _ H4.out.rd;clear hs4))))
 go_ret2
 exact⟨rfl,H5.out.step⟩
theorem sml_bad {l:List Tok} {k j:Nat} (h:smlP l k= .bad j):j=k:=by
 unfold smlP takeP at h
 split at h
 ·simp only[Rp.then,Rp.met] at h;cases h
 ·injection h with h;exact h.symm
theorem sml_at {l:List Tok} {k j:Nat} {x:Int} {s:Sf} {g:Gs} (h:smlP l k= .ok x j s g):j=k+1∧k<l.length:=by
 unfold smlP takeP at h
 split at h
 ·rename_i c
  simp only[Rp.then,Rp.met] at h;injection h with _ h
  exact⟨h.symm,nxp_lt (by omega)⟩
 ·cases h
abbrev DelP (b:Nat) (S:ByteArray) (A:Option Addr) (n c:Nat) (l:List Tok) (k o:Nat) (R:Rp (Int × Int)) (sf:Sf) (gs:Gs) (qq:Nat) (vN vG:Value):Prop:=Hid (∀ w',DocP b w' S A n c l k o sf gs qq vN vG→Calls Tryz.prog 65 #[.pointer (some ⟨b,0,none⟩)] w' fun e w2=>
 ∃ x y:Int,e= .returned (.tuple #[.int .i64 x,.int .i64 y])∧StepP b w' S A n c l R.at R.err (sf++R.sfs) gs qq vN vG w2∧∀ d j s g,R= .ok d j s g→d=(x,y))
theorem del_fell {b:Nat} {w':World} {S:ByteArray} {A:Option Addr} {n c:Nat} {l:List Tok} {k:Nat} {R2:Rp Int} {sf:Sf} {gs:Gs} {qq:Nat} {vN vG:Value} {e:Ending} {w2:World} (h:∃ x y:Int,e= .returned (.tuple #[.int .i64 x,.int .i64 y])∧StepP b w' S A n c l k 1 (sf++R2.sfs) gs qq vN vG w2):
  ∃ x y:Int,e= .returned (.tuple #[.int .i64 x,.int .i64 y])∧StepP b w' S A n c l (Rp.bad k:Rp (Int × Int)).at (Rp.bad k:Rp (Int × Int)).err (sf++(Rp.bad k:Rp (Int × Int)).sfs) gs qq vN vG w2∧∀ d j s g,(Rp.bad k:Rp (Int × Int))= .ok d j s g→d=(x,y):=by
 obtain⟨x,y,h1,h2,h3⟩:=h;exact⟨x,y,h1,⟨h2,h3.noting _ fun e=>by cases e⟩,fun _ _ _ _ hy=>by cases hy⟩
theorem delP (b:Nat) (S:ByteArray) (A:Option Addr) (n c:Nat) (l:List Tok) (k o:Nat) (sf:Sf) (gs:Gs) (qq:Nat) (vN vG:Value) {R:Rp (Int × Int)} (hR:gateR o k (delayP l k)=R):DelP b S A n c l k o R sf gs qq vN vG:=Lib.hid fun w' h=>by
 subst hR;have hl:=h.len;have K1:=neeP b S A n c l 1 (by decide) ⟨#[97,102,116,101,114]⟩ k o sf gs qq vN vG h.oks;by_cases e1:o=0∧isP l 1 wAfter k=true
 ·obtain⟨rfl,e1⟩:=e1
  have en:needP l 1 wAfter k= .ok () (k+1) [] []:=by unfold needP;rw[if_pos e1]
  have K1:NeeP b S A n c l 1 ⟨#[97,102,116,101,114]⟩ k 0 (k+1) 0 sf gs qq vN vG:=by
   have e2:gateR 0 k (needP l 1 (⟨#[97,102,116,101,114]⟩:ByteArray).data.toList k)= .ok () (k+1) [] []:=en;rw[e2] at K1;exact K1
  have hk:=isP_lt e1 (by decide)
  cases h2:smlP l (k+1) with
  | bad j=>
    obtain rfl:=sml_bad h2
    have eR:gateR 0 k (delayP l k)= .bad (k+1):=by
     show delayP l k=_;unfold delayP;rw[en];simp only[Rp.then];rw[h2]
    rw[eR];have K2:=smaP b S A n c l (k+1) 0 sf gs qq vN vG (R:= .bad (k+1)) h2;have K3:=isPC b S A n c l 1 (by decide) ⟨#[101,118,101,114]⟩ (k+1) 1 (sf++(Rp.bad (k+1):Rp Int).sfs) gs qq vN vG (isOp_bad _ _ _ _ (by decide));have K4:=smaP b S A n c l (k+1) 1 (sf++(Rp.bad (k+1):Rp Int).sfs) gs qq vN vG (R:= .bad (k+1)) rfl;exact(pdelay_bad b w' S A n c l k 0 (k+1) 0 (k+1) (.bad (k+1)) sf gs qq vN vG h K1 K2 K3 K4).mono fun e w2 h=>del_fell h
  | ok lo j s g=>
    obtain⟨rfl,hj⟩:=sml_at h2;by_cases h3:isP l 1 wEver (k+1+1)=true
    ·have eR:gateR 0 k (delayP l k)= .ok (lo, -1) (k+1+1+1) s g:=by
      show delayP l k=_;unfold delayP;rw[en];simp only[Rp.then];rw[h2];simp only;rw[if_pos h3];simp only[List.nil_append,List.append_nil]
     rw[eR];have K2:=smaY b S A n c l h2 (sf:=sf) rfl gs qq vN vG;have K3:=isPC b S A n c l 1 (by decide) ⟨#[101,118,101,114]⟩ (k+1+1) 0 (sf++s) gs qq vN vG (v:=true) h3;exact(pdelay_ever b w' S A n c l k (k+1) (k+1+1) lo sf (sf++s) gs qq vN vG h K1 K2 K3 (by have:=isP_lt h3 (by decide);omega)).mono fun e w2 ⟨p1,p2⟩=>⟨_,_,p1,p2,fun _ _ _ _ hy=>by injection hy with hy;exact hy.symm⟩
    ·have K3:IsPC b S A n c l 1 ⟨#[101,118,101,114]⟩ (k+1+1) 0 (sf++s) gs qq vN vG false:=isPC b S A n c l 1 (by decide) _ _ _ _ _ _ _ _ (Bool.eq_false_iff.2 h3)
     cases h4:smlP l (k+1+1) with
     | bad j=>
       obtain rfl:=sml_bad h4
       have eR:gateR 0 k (delayP l k)= .bad (k+1+1):=by
        show delayP l k=_;unfold delayP;rw[en];simp only[Rp.then];rw[h2];simp only;rw[if_neg h3,h4]
       rw[eR];have K2:=smaP b S A n c l (k+1) 0 sf gs qq vN vG (R:= .ok lo (k+1+1) s g) h2;have K4:=smaP b S A n c l (k+1+1) 0 (sf++s) gs qq vN vG (R:= .bad (k+1+1)) h4;exact(pdelay_bad b w' S A n c l k 0 (k+1) 0 (k+1+1) (.ok lo (k+1+1) s g) sf gs qq vN vG h K1 K2 K3 K4).mono fun e w2 h=>del_fell h
     | ok hi m s4 g4=>
       obtain⟨rfl,hm⟩:=sml_at h4;have K2:=smaY b S A n c l h2 (sf:=sf) rfl gs qq vN vG;have K4:=smaY b S A n c l h4 (sf:=sf++s) rfl gs qq vN vG;have ht:l[k+1+1]?=some (nxp l (k+1+1)):=by rw[nxp_at (List.getElem?_eq_getElem hm)];exact List.getElem?_eq_getElem hm
       by_cases h5:hi<lo∧(nxp l (k+1+1)).n≤9
       ·have eR:gateR 0 k (delayP l k)= .ok (lo,hi) (k+1+1+1) (s++(s4++[(k+1+1,5)])) (g++g4):=by
         show delayP l k=_;unfold delayP;rw[en];simp only[Rp.then];rw[h2];simp only;rw[if_neg h3,h4];simp only[Rp.met,decide_eq_true h5,if_true,List.nil_append,List.append_nil]
        rw[eR];have K5:=sofP b S A n c l (k+1+1) 5 (by decide) (k+1+1+1) 0 (fun _=>by omega) (sf++s++s4) gs qq vN vG;refine(pdelay_less b w' S A n c l k (k+1) (k+1+1) (k+1+1+1) lo hi sf (sf++s) (sf++s++s4) gs qq vN vG _ ht h K1 K2 K3 K4 h5.1 h5.2 K5).mono fun e w2 ⟨p1,p2⟩=>⟨_,_,p1,?_,fun _ _ _ _ hy=>by injection hy with hy;exact hy.symm⟩
        have e9:sf++s++s4++[(k+1+1,(5:Int))]=sf++(Rp.ok (lo,hi) (k+1+1+1) (s++(s4++[(k+1+1,5)])) (g++g4):Rp (Int × Int)).sfs:=by simp[Rp.sfs]
        rw[←e9];exact p2
       ·have eR:gateR 0 k (delayP l k)= .ok (lo,hi) (k+1+1+1) (s++s4) (g++g4):=by
         show delayP l k=_;unfold delayP;rw[en];simp only[Rp.then];rw[h2];simp only;rw[if_neg h3,h4];simp only[Rp.met,decide_eq_false h5,Bool.false_eq_true,if_false,List.nil_append,List.append_nil]
        rw[eR];refine(pdelay_two b w' S A n c l k (k+1) (k+1+1) (k+1+1+1) lo hi sf (sf++s) (sf++s++s4) gs qq vN vG _ ht h K1 K2 K3 K4 h5).mono fun e w2 ⟨p1,p2⟩=>⟨_,_,p1,?_,fun _ _ _ _ hy=>by injection hy with hy;exact hy.symm⟩
        have e9:sf++s++s4=sf++(Rp.ok (lo,hi) (k+1+1+1) (s++s4) (g++g4):Rp (Int × Int)).sfs:=by simp[Rp.sfs]
        rw[←e9];exact p2
 ·have eR:gateR o k (delayP l k)= .bad k∧gateR o k (needP l 1 wAfter k)= .bad k:=by
   unfold gateR
   split
   ·rename_i o0
    have:needP l 1 wAfter k= .bad k:=by unfold needP;rw[if_neg fun e=>e1 ⟨o0,e⟩]
    unfold delayP;rw[this];exact⟨rfl,rfl⟩
   ·exact⟨rfl,rfl⟩
  rw[eR.1]
  have K1:NeeP b S A n c l 1 ⟨#[97,102,116,101,114]⟩ k o k 1 sf gs qq vN vG:=by
   have e2:gateR o k (needP l 1 (⟨#[97,102,116,101,114]⟩:ByteArray).data.toList k)= .bad k:=eR.2;rw[e2] at K1;exact K1
  have K2:=smaP b S A n c l k 1 sf gs qq vN vG (R:= .bad k) rfl;have K3:=isPC b S A n c l 1 (by decide) ⟨#[101,118,101,114]⟩ k 1 (sf++(Rp.bad k:Rp Int).sfs) gs qq vN vG (isOp_bad _ _ _ _ (by decide));have K4:=smaP b S A n c l k 1 (sf++(Rp.bad k:Rp Int).sfs) gs qq vN vG (R:= .bad k) rfl;exact(pdelay_bad b w' S A n c l k o k 1 k (.bad k) sf gs qq vN vG h K1 K2 K3 K4).mono fun e w2 h=>del_fell h
theorem ptext_fell (b:Nat) (w:World) (S:ByteArray) (A:Option Addr) (n c:Nat) (l:List Tok) (k:Nat) (sf:Sf) (gs:Gs) (qq:Nat) (vN vG:Value) (h:DocP b w S A n c l k 1 sf gs qq vN vG):
  Calls Tryz.prog 64 #[.pointer (some ⟨b,0,none⟩)] w fun e w2=>e= .returned (.tuple #[.string ⟨#[]⟩,.int .i64 0])∧StepP b w S A n c l k 1 sf gs qq vN vG w2:=by
 have H:=Lib.hid h;obtain⟨a,_,_,_,c2⟩:=h.atx;have c4:=h.c4;have KR:=faiP b S A n c l k 1 sf gs qq vN vG;clear h;go_enter Tryz.func64,Tryz.ntmps64;go_wp2_with (go_at_call 37;go_must (((with_reducible refine(KR.out _ H.out).mono ?_));rintro e w2 ⟨rfl,hs2⟩;have HD:=Lib.hid hs2;clear hs2))
 go_ret2
 exact⟨rfl,HD.out⟩
theorem ptext_end (b:Nat) (w:World) (S:ByteArray) (A:Option Addr) (n c:Nat) (l:List Tok) (k:Nat) (sf:Sf) (gs:Gs) (qq:Nat) (vN vG:Value) (h:DocP b w S A n c l k 0 sf gs qq vN vG) (hk:¬ k<n):
  Calls Tryz.prog 64 #[.pointer (some ⟨b,0,none⟩)] w fun e w2=>e= .returned (.tuple #[.string ⟨#[]⟩,.int .i64 0])∧StepP b w S A n c l k 1 sf gs qq vN vG w2:=by
 have H:=Lib.hid h;have c1:=h.c1;have c2:=h.at0;have c4:=h.c4;have hk1:¬ (k:Int)<n:=by omega
 have hdk:decide (k<n)=false:=decide_eq_false hk;have hle:=h.le;have hkk:k≤1000000:=by have:=h.few;omega
 have hn2:n≤1000000:=by have:=h.few;omega
 have KR:=faiP b S A n c l k 0 sf gs qq vN vG;clear h hk hle;go_enter Tryz.func64,Tryz.ntmps64;go_wp2_with (go_at_call 37;go_must (((with_reducible refine(KR.out _ H.out).mono ?_));rintro e w2 ⟨rfl,hs2⟩;have HD:=Lib.hid hs2;clear hs2))
 go_ret2
 exact⟨rfl,HD.out⟩
theorem ptext_kind (b:Nat) (w:World) (S:ByteArray) (A:Option Addr) (n c:Nat) (l:List Tok) (k:Nat) (sf:Sf) (gs:Gs) (qq:Nat) (vN vG:Value) (h:DocP b w S A n c l k 0 sf gs qq vN vG) (t:Tok) (ht:l[k]?=some t) (hkd:¬ t.kind=3):
  Calls Tryz.prog 64 #[.pointer (some ⟨b,0,none⟩)] w fun e w2=>e= .returned (.tuple #[.string ⟨#[]⟩,.int .i64 0])∧StepP b w S A n c l k 1 sf gs qq vN vG w2:=by
 have H:=Lib.hid h;have c1:=h.c1;have c2:=h.at0;have c4:=h.c4;have hl:=h.len;have hk:=(List.getElem?_eq_some_iff.1 ht).1;have hk1:(k:Int)<n:=by omega
 have hk3:k<n:=by omega
 have hkk:k≤1000000:=by omega
 have hn2:n≤1000000:=by omega
 have KR:=faiP b S A n c l k 0 sf gs qq vN vG;obtain⟨ad,A',c',rfl,h5,_⟩:=h.row.at_ ht
 obtain⟨x0,_,_,_,_⟩:=h5;have hbt:(ad.add (k * 5)).block<w.heap.size:=World.block_lt_of_cell? w _ x0;have b1:(t.kind==3)=false:=by simpa using hkd
 clear h hk hl ht hkd;go_enter Tryz.func64,Tryz.ntmps64;go_wp2_with (go_at_call 37;go_must (((with_reducible refine(KR.out _ H.out).mono ?_));rintro e w2 ⟨rfl,hs2⟩;have HD:=Lib.hid hs2;clear hs2))
 go_ret2
 exact⟨rfl,HD.out⟩
theorem ptext_many (b:Nat) (w:World) (S:ByteArray) (A:Option Addr) (n c:Nat) (l:List Tok) (k:Nat) (sf:Sf) (gs:Gs) (qq:Nat) (vN vG:Value) (h:DocP b w S A n c l k 0 sf gs qq vN vG) (t:Tok) (ht:l[k]?=some t) (hkd:t.kind=3) (hm:1<t.parts.length):
  Calls Tryz.prog 64 #[.pointer (some ⟨b,0,none⟩)] w fun e w2=>e= .returned (.tuple #[.string ⟨#[]⟩,.int .i64 0])∧StepP b w S A n c l k 1 sf gs qq vN vG w2:=by
 have H:=Lib.hid h;have c1:=h.c1;have c2:=h.at0;have c4:=h.c4;have hl:=h.len;have hk:=(List.getElem?_eq_some_iff.1 ht).1;have hk1:(k:Int)<n:=by omega
 have hk3:k<n:=by omega
 have hkk:k≤1000000:=by omega
 have hn2:n≤1000000:=by omega
 have KR:=faiP b S A n c l k 0 sf gs qq vN vG;obtain⟨ad,A',c',rfl,h5,_⟩:=h.row.at_ ht
 obtain⟨x0,_,_,x3,_⟩:=h5;have hbt:(ad.add (k * 5)).block<w.heap.size:=World.block_lt_of_cell? w _ x0;have hp:=(h.fit.fit t (List.mem_of_getElem? ht)).parts;generalize t.parts.length=m at x3 hm hp;rw[hkd] at x0;have hm1:(1:Int)<m:=by omega
 clear h hk hl ht hkd;go_enter Tryz.func64,Tryz.ntmps64;go_wp2_with (go_at_call 37;go_must (((with_reducible refine(KR.out _ H.out).mono ?_));rintro e w2 ⟨rfl,hs2⟩;have HD:=Lib.hid hs2;clear hs2))
 go_ret2
 exact⟨rfl,HD.out⟩
theorem ptext_none (b:Nat) (w:World) (S:ByteArray) (A:Option Addr) (n c:Nat) (l:List Tok) (k:Nat) (sf:Sf) (gs:Gs) (qq:Nat) (vN vG:Value) (h:DocP b w S A n c l k 0 sf gs qq vN vG) (t:Tok) (ht:l[k]?=some t) (hkd:t.kind=3) (hm:t.parts=[]):
  Calls Tryz.prog 64 #[.pointer (some ⟨b,0,none⟩)] w fun e w2=>e= .returned (.tuple #[.string ⟨#[]⟩,.int .i64 k])∧StepP b w S A n c l (k+1) 0 sf gs qq vN vG w2:=by
 have H:=Lib.hid h;have c1:=h.c1;have c2:=h.at0;have c4:=h.c4;have f2:=h.fr 2 (by decide);have hl:=h.len;have hk:=(List.getElem?_eq_some_iff.1 ht).1;have hk1:(k:Int)<n:=by omega
 have hk3:k<n:=by omega
 have hkk:k≤1000000:=by omega
 have hn2:n≤1000000:=by omega
 have hbl:=h.lt;obtain⟨ad,A',c',rfl,h5,_⟩:=h.row.at_ ht
 obtain⟨x0,_,_,x3,_⟩:=h5;have hbt:(ad.add (k * 5)).block<w.heap.size:=World.block_lt_of_cell? w _ x0;rw[hm] at x3;rw[hkd] at x0;have HK:Hid (k+1≤n):=Lib.hid hk3;clear h hk hl ht hkd hm;go_enter Tryz.func64,Tryz.ntmps64;go_wp2
 go_ret2
 exact⟨rfl,grnP_set _ _ _ _,H.out.place (k+1) ((k:Int)+1) (by omega) HK.out⟩
theorem ptext_var (b:Nat) (w:World) (S:ByteArray) (A:Option Addr) (n c:Nat) (l:List Tok) (k:Nat) (sf:Sf) (gs:Gs) (qq:Nat) (vN vG:Value) (h:DocP b w S A n c l k 0 sf gs qq vN vG) (t:Tok) (ht:l[k]?=some t) (hkd:t.kind=3) (p:Pt) (hm:t.parts=[p]) (hp:¬ p.1=[]):
  Calls Tryz.prog 64 #[.pointer (some ⟨b,0,none⟩)] w fun e w2=>e= .returned (.tuple #[.string ⟨#[]⟩,.int .i64 0])∧StepP b w S A n c l k 1 sf gs qq vN vG w2:=by
 have H:=Lib.hid h;have c1:=h.c1;have c2:=h.at0;have c4:=h.c4;have hl:=h.len;have hk:=(List.getElem?_eq_some_iff.1 ht).1;have hk1:(k:Int)<n:=by omega
 have hk3:k<n:=by omega
 have hkk:k≤1000000:=by omega
 have hn2:n≤1000000:=by omega
 have KR:=faiP b S A n c l k 0 sf gs qq vN vG;obtain⟨ad,A',c',rfl,h5,hR⟩:=h.row.at_ ht
 obtain⟨x0,_,_,x3,_⟩:=h5;have hbt:(ad.add (k * 5)).block<w.heap.size:=World.block_lt_of_cell? w _ x0;rw[hm] at x3 hR;rw[hkd] at x0;obtain⟨ad2,rfl,hr⟩:=hR.2 (by simp);obtain⟨y0,y1⟩:=hr.at_ (k:=0) (p:=p) rfl
 rw[show ad2.add (0 * 2)=ad2 by simp[Addr.add]] at y0 y1;have hbt2:ad2.block<w.heap.size:=World.block_lt_of_cell? w _ y0;obtain⟨T,hT⟩:∃ T:ByteArray,T=⟨p.1.toArray⟩:=⟨_,rfl⟩;rw[←hT] at y0;have b1:T.toList.isEmpty=false:=by rw[hT,toList_data];simpa using hp
 clear h hk hl ht hkd hm hR hr y1 hT hp;go_enter Tryz.func64,Tryz.ntmps64;go_wp2_with (go_at_call 37;go_must (((with_reducible refine(KR.out _ H.out).mono ?_));rintro e w2 ⟨rfl,hs2⟩;have HD:=Lib.hid hs2;clear hs2))
 go_ret2
 exact⟨rfl,HD.out⟩
theorem ptext_one (b:Nat) (w:World) (S:ByteArray) (A:Option Addr) (n c:Nat) (l:List Tok) (k:Nat) (sf:Sf) (gs:Gs) (qq:Nat) (vN vG:Value) (h:DocP b w S A n c l k 0 sf gs qq vN vG) (t:Tok) (ht:l[k]?=some t) (hkd:t.kind=3) (p:Pt) (hm:t.parts=[p]) (hp:p.1=[]):
  Calls Tryz.prog 64 #[.pointer (some ⟨b,0,none⟩)] w fun e w2=>e= .returned (.tuple #[.string ⟨p.2.toArray⟩,.int .i64 k])∧StepP b w S A n c l (k+1) 0 sf gs qq vN vG w2:=by
 have H:=Lib.hid h;have c1:=h.c1;have c2:=h.at0;have c4:=h.c4;have f2:=h.fr 2 (by decide);have hl:=h.len;have hk:=(List.getElem?_eq_some_iff.1 ht).1;have hk1:(k:Int)<n:=by omega
 have hk3:k<n:=by omega
 have hkk:k≤1000000:=by omega
 have hn2:n≤1000000:=by omega
 have hbl:=h.lt;obtain⟨ad,A',c',rfl,h5,hR⟩:=h.row.at_ ht
 obtain⟨x0,_,_,x3,_⟩:=h5;have hbt:(ad.add (k * 5)).block<w.heap.size:=World.block_lt_of_cell? w _ x0;rw[hm] at x3 hR;rw[hkd] at x0;obtain⟨ad2,rfl,hr⟩:=hR.2 (by simp);obtain⟨y0,y1⟩:=hr.at_ (k:=0) (p:=p) rfl
 rw[show ad2.add (0 * 2)=ad2 by simp[Addr.add]] at y0 y1;have hbt2:ad2.block<w.heap.size:=World.block_lt_of_cell? w _ y0;have hb2:ad2.block<b:=hr.1;have hbn:b≠ad2.block:=by omega
 have hbn2:¬ ad2.block=b:=by omega
 rw[hp] at y0;obtain⟨T,hT⟩:∃ T:ByteArray,T=⟨p.2.toArray⟩:=⟨_,rfl⟩;rw[←hT] at y1 ⊢;have HK:Hid (k+1≤n):=Lib.hid hk3;clear h hk hl ht hkd hm hR hr hT hp hb2;go_enter Tryz.func64,Tryz.ntmps64;go_wp2
 go_ret2
 exact⟨rfl,grnP_set _ _ _ _,H.out.place (k+1) ((k:Int)+1) (by omega) HK.out⟩
abbrev TexP (b:Nat) (S:ByteArray) (A:Option Addr) (n c:Nat) (l:List Tok) (k o:Nat) (R:Rp Bs) (sf:Sf) (gs:Gs) (qq:Nat) (vN vG:Value):Prop:=Hid (∀ w',DocP b w' S A n c l k o sf gs qq vN vG→Calls Tryz.prog 64 #[.pointer (some ⟨b,0,none⟩)] w' fun e w2=>
 ∃ (W:Bs) (u:Nat),e= .returned (.tuple #[.string ⟨W.toArray⟩,.int .i64 u])∧StepP b w' S A n c l R.at R.err sf gs qq vN vG w2∧(∀ y j s g,R= .ok y j s g→y=W∧u=k)∧((∀ y j s g,R≠ .ok y j s g)→W=[]∧u=0))
theorem texP (b:Nat) (S:ByteArray) (A:Option Addr) (n c:Nat) (l:List Tok) (k o:Nat) (sf:Sf) (gs:Gs) (qq:Nat) (vN vG:Value) {R:Rp Bs} (hR:gateR o k (textP l k)=R):TexP b S A n c l k o R sf gs qq vN vG:=Lib.hid fun w' h=>by
 subst hR
 have hno:∀ (e:Ending) (w2:World),(e= .returned (.tuple #[.string ⟨#[]⟩,.int .i64 0])∧StepP b w' S A n c l k 1 sf gs qq vN vG w2)→∃ (W:Bs) (u:Nat),e= .returned (.tuple #[.string ⟨W.toArray⟩,.int .i64 u])∧StepP b w' S A n c l (Rp.bad k:Rp Bs).at (Rp.bad k:Rp Bs).err sf gs qq vN vG w2∧(∀ y j s g,(Rp.bad k:Rp Bs)= .ok y j s g→y=W∧u=k)∧((∀ y j s g,(Rp.bad k:Rp Bs)≠ .ok y j s g)→W=[]∧u=0):=
  fun e w2 ⟨h1,h2⟩=>⟨[],0,h1,h2,fun _ _ _ _ hy=>(by cases hy),fun _=>⟨rfl,rfl⟩⟩
 have hok:∀ (W:Bs) (e:Ending) (w2:World),(e= .returned (.tuple #[.string ⟨W.toArray⟩,.int .i64 k])∧StepP b w' S A n c l (k+1) 0 sf gs qq vN vG w2)→∃ (W2:Bs) (u:Nat),e= .returned (.tuple #[.string ⟨W2.toArray⟩,.int .i64 u])∧StepP b w' S A n c l (Rp.ok W (k+1) [] []).at (Rp.ok W (k+1) [] []).err sf gs qq vN vG w2∧(∀ y j s g,(Rp.ok W (k+1) [] [])= .ok y j s g→y=W2∧u=k)∧((∀ y j s g,(Rp.ok W (k+1) [] [])≠ .ok y j s g)→W2=[]∧u=0):=
  fun W e w2 ⟨h1,h2⟩=>⟨W,k,h1,h2,fun _ _ _ _ hy=>(by injection hy with hy;exact⟨hy.symm,rfl⟩),fun hn=>absurd rfl (hn _ _ _ _)⟩
 have hl:=h.len
 rcases h.oks with rfl | rfl
 ·have e0:gateR 0 k (textP l k)=textP l k:=rfl
  rw[e0];unfold textP;by_cases hk:k<n
  ·have ht:l[k]?=some (nxp l k):=by rw[nxp_at (List.getElem?_eq_getElem (by omega))];exact List.getElem?_eq_getElem (by omega)
   by_cases hkd:(nxp l k).kind=3
   ·rw[if_pos hkd]
    match hps:(nxp l k).parts with
    | []=>exact(ptext_none b w' S A n c l k sf gs qq vN vG h _ ht hkd hps).mono (hok [])
    | [p]=>
      by_cases hp:p.1=[]
      ·have e1:oneT [p]=some p.2:=by unfold oneT;exact if_pos hp
       rw[e1];exact(ptext_one b w' S A n c l k sf gs qq vN vG h _ ht hkd p hps hp).mono (hok p.2)
      ·have e1:oneT [p]=none:=by unfold oneT;exact if_neg hp
       rw[e1];exact(ptext_var b w' S A n c l k sf gs qq vN vG h _ ht hkd p hps hp).mono hno
    | p::q::r=>
      have e1:oneT (p::q::r)=none:=rfl;rw[e1];exact(ptext_many b w' S A n c l k sf gs qq vN vG h _ ht hkd (by rw[hps];simp)).mono hno
   ·rw[if_neg hkd]
    exact(ptext_kind b w' S A n c l k sf gs qq vN vG h _ ht hkd).mono hno
  ·rw[if_neg (fun e=>by rw[nxp_end (by omega)] at e;exact absurd e (by decide))]
   exact(ptext_end b w' S A n c l k sf gs qq vN vG h hk).mono hno
 ·exact(ptext_fell b w' S A n c l k sf gs qq vN vG h).mono hno
section
structure FarP (b:Nat) (vN vG:Value) (w w':World):Prop where
 os:w'.os=w.os
 tape:w'.tape=w.tape
 output:w'.output=w.output
 size:w.heap.size≤w'.heap.size
 block:∀ k,k<w.heap.size→k≠b→vN.ownBlock≠some k→vG.ownBlock≠some k→w'.heap[k]?=w.heap[k]?
theorem FarP.of {b:Nat} {vN vG:Value} {w w':World} (h:w.grownBy w' (some b)):FarP b vN vG w w':=⟨h.os,h.tape,h.output,h.size,fun k hk hb _ _=>h.block k hk (fun e=>hb (by injection e))⟩
def FreshP (w:World) (v v':Value):Prop:=∀ g,v'.ownBlock=some g→v.ownBlock=some g∨w.heap.size≤g
theorem FreshP.refl (w:World) (v:Value):FreshP w v v:=fun _ h=> .inl h
theorem FreshP.trans {w w1:World} {v v1 v2:Value} (h:FreshP w v v1) (k:FreshP w1 v1 v2) (hs:w.heap.size≤w1.heap.size):FreshP w v v2:=fun g hg=>by
 rcases k g hg with k | k
 ·exact h g k
 ·exact .inr (by omega)
theorem FarP.trans {b:Nat} {vN vG vN1 vG1:Value} {w w1 w2:World} (h:FarP b vN vG w w1) (k:FarP b vN1 vG1 w1 w2) (hN:FreshP w vN vN1) (hG:FreshP w vG vG1):FarP b vN vG w w2:=
 ⟨k.os.trans h.os,k.tape.trans h.tape,k.output.trans h.output,Nat.le_trans h.size k.size,fun i hi hb h1 h2=>
  (k.block i (Nat.lt_of_lt_of_le hi h.size) hb (fun e=>by rcases hN i e with q | q;exact h1 q;omega) (fun e=>by rcases hG i e with q | q;exact h2 q;omega)).trans (h.block i hi hb h1 h2)⟩
structure WentP (b:Nat) (w:World) (S:ByteArray) (A:Option Addr) (n c:Nat) (l:List Tok) (vN0 vG0:Value) (k o:Nat) (sf:Sf) (gs:Gs) (qq:Nat) (vN vG:Value) (w':World):Prop where
 far:FarP b vN0 vG0 w w'
 rd:DocP b w' S A n c l k o sf gs qq vN vG
 fN:FreshP w vN0 vN
 fG:FreshP w vG0 vG
theorem WentP.of {b:Nat} {w:World} {S:ByteArray} {A:Option Addr} {n c:Nat} {l:List Tok} {vN vG:Value} {k o:Nat} {sf:Sf} {gs:Gs} {qq:Nat} {w':World} (h:StepP b w S A n c l k o sf gs qq vN vG w'):WentP b w S A n c l vN vG k o sf gs qq vN vG w':=⟨.of h.1,h.2,.refl _ _,.refl _ _⟩
theorem WentP.trans {b:Nat} {w w1 w2:World} {S:ByteArray} {A:Option Addr} {n c:Nat} {l:List Tok} {v0 g0 v1 g1 v2 g2:Value} {k o k' o':Nat} {sf sf':Sf} {gs gs':Gs} {qq qq':Nat} (h:WentP b w S A n c l v0 g0 k o sf gs qq v1 g1 w1) (h':WentP b w1 S A n c l v1 g1 k' o' sf' gs' qq' v2 g2 w2):WentP b w S A n c l v0 g0 k' o' sf' gs' qq' v2 g2 w2:=
 ⟨h.far.trans h'.far h.fN h.fG,h'.rd,h.fN.trans h'.fN h.far.size,h.fG.trans h'.fG h.far.size⟩
theorem far_one {w w3:World} {o1:Obj} {row:Option Nat} (hg:(w.alloc o1).grownBy w3 row):w3.os=w.os∧w3.tape=w.tape∧w3.output=w.output∧w.heap.size≤w3.heap.size∧∀ k,k<w.heap.size→row≠some k→w3.heap[k]?=w.heap[k]?:=by
 have hB:Below w.heap.size w (w.alloc o1):=one_boxP w o1;exact⟨hg.os.trans hB.os,hg.tape.trans hB.tape,hg.output.trans hB.output,Nat.le_trans hB.size hg.size,fun k hk hr=>(hg.block k (Nat.lt_of_lt_of_le hk hB.size) (fun e=>hr e.symm)).trans (hB.block k hk)⟩
structure MidP (b:Nat) (w w4:World) (vN vG v2:Value) (m:Nat) (xs:List Value):Prop where
 os:w4.os=w.os
 tape:w4.tape=w.tape
 output:w4.output=w.output
 size:w.heap.size≤w4.heap.size
 block:∀ k,k<w.heap.size→k≠b→vN.ownBlock≠some k→w4.heap[k]?=w.heap[k]?
 cell:∀ j,j≠7→w4.cell? ⟨b,j,none⟩=w.cell? ⟨b,j,none⟩
 cell7:w4.cell? ⟨b,7,none⟩=some v2
 fr:∀ j,w4.frozen? ⟨b,j,none⟩=w.frozen? ⟨b,j,none⟩
 row:w4.ownsRow (b+1) 9 1 v2 m xs
 ap:∀ g,vG.ownBlock=some g→v2.ownBlock≠some g
 fN:FreshP w vN v2
theorem row_kept {w w':World} {base:Nat} {e:TypeId} {size:Nat} {v:Value} {n:Nat} {xs:List Value} (h:w.ownsRow base e size v n xs) (hk:∀ g,v.ownBlock=some g→w'.heap[g]?=w.heap[g]?):w'.ownsRow base e size v n xs:=by
 obtain⟨h1,h2⟩:=h;refine⟨h1,?_⟩
 rcases h2 with h2 | ⟨g,cap,cur,rfl,h3,h4,h5⟩
 ·exact .inl h2
 ·exact .inr ⟨g,cap,cur,rfl,h3,(hk g rfl).trans h4,h5⟩
section
variable {b:Nat} {w w3:World} {S:ByteArray} {A:Option Addr} {n c:Nat} {l:List Tok} {k o:Nat} {sf:Sf} {gs:Gs} {qq:Nat} {vN vG v2:Value} {o1:Obj} {m:Nat} {xs:List Value}
theorem DocP.row_cells {row:Option Nat} (h:DocP b w S A n c l k o sf gs qq vN vG) (hg:(w.alloc o1).grownBy w3 row) (hr:row≠some b):∀ j,w3.cell? ⟨b,j,none⟩=w.cell? ⟨b,j,none⟩∧w3.frozen? ⟨b,j,none⟩=w.frozen? ⟨b,j,none⟩:=fun j=>by
 have:=(far_one hg).2.2.2.2 b h.lt hr;exact⟨World.cell?_of_block (a:=⟨b,j,none⟩) this,World.frozen?_of_block (a:=⟨b,j,none⟩) this⟩
theorem DocP.own_ne (h:DocP b w S A n c l k o sf gs qq vN vG):vN.ownBlock≠some b∧vG.ownBlock≠some b:=⟨fun e=>absurd (h.own.above.1 _ e).1 (Nat.lt_irrefl _),fun e=>absurd (h.own.above.2 _ e).1 (Nat.lt_irrefl _)⟩
theorem DocP.mid (h:DocP b w S A n c l k o sf gs qq vN vG) (hown:w3.ownsRow (b+1) 9 1 v2 m xs) (hg:(w.alloc o1).grownBy w3 vN.ownBlock) (hat:v2.ownBlock=vN.ownBlock∨v2.ownBlock=some (w.alloc o1).heap.size):MidP b w (w3.setCell ⟨b,7,none⟩ v2) vN vG v2 m xs:=by
 obtain⟨a1,a2,a3,a4,a5⟩:=far_one hg;have hc:=h.row_cells hg h.own_ne.1;have hne:v2.ownBlock≠some b:=fun e=>by have:=hown.lt _ e;omega
 refine⟨a1,a2,a3,by simpa[World.setCell] using a4,fun i hi hb hn=>(Below.heap_setCell _ _ _ _ (by show i≠b;omega)).trans (a5 i hi hn),fun j hj=>(setP_ne _ _ _ _ _ (by omega)).trans (hc j).1,setP_same _ _ _ _ _ ((hc 7).1.trans h.c7),fun j=>(World.frozen?_setCell ..).trans (hc j).2,?_,fun g hgg e=>?_,fun g hgg=>?_⟩
 ·exact row_kept hown fun g hgv=>Below.heap_setCell _ _ _ _ (fun e=>hne (by rw[hgv,e]))
 ·rcases hat with hat | hat
  ·exact h.own.ap g (by rw[←hat,e]) hgg
  ·have:=(h.own.above.2 g hgg).2
   rw[hat] at e;injection e with e
   have hs:=(one_boxP w o1).size;omega
 ·rcases hat with hat | hat
  ·exact .inl (by rw[←hat,hgg])
  ·rw[hat] at hgg
   injection hgg with hgg
   have hs:=(one_boxP w o1).size;exact .inr (by omega)
end
theorem DocP.done {b:Nat} {w w4 w5:World} {S:ByteArray} {A:Option Addr} {n c:Nat} {l:List Tok} {k o:Nat} {sf:Sf} {gs gs':Gs} {qq qq':Nat} {vN vG v2 v5:Value} {o2:Obj} {ns:List Bs} {ats:List Nat}
  (h:DocP b w S A n c l k o sf gs qq vN vG) (M:MidP b w w4 vN vG v2 ns.length (strsP ns)) (hown:w5.ownsRow (b+1) 3 1 v5 ats.length (atsP ats)) (hg:(w4.alloc o2).grownBy w5 vG.ownBlock) (hat:v5.ownBlock=vG.ownBlock∨v5.ownBlock=some (w4.alloc o2).heap.size)
  (hlen:ns.length=ats.length) (h0:o=0→ns=gs'.map (·.1)∧ats=gs'.map (·.2)) (hq:ns.length≤gs'.length+qq'):WentP b w S A n c l vN vG k o sf gs' qq' v2 v5 (w5.setCell ⟨b,8,none⟩ v5):=by
 obtain⟨a1,a2,a3,a4,a5⟩:=far_one hg;have hbl:=h.lt;have hne:=h.own_ne;have hab:=h.own.above;have hs:=M.size;have hv5:v5.ownBlock≠some b:=fun e=>by have:=hown.lt _ e;omega
 have hs2:=(one_boxP w4 o2).size;have hb4:w5.heap[b]?=w4.heap[b]?:=a5 b (by omega) hne.2;have hc:∀ j,w5.cell? ⟨b,j,none⟩=w4.cell? ⟨b,j,none⟩:=fun j=>World.cell?_of_block (a:=⟨b,j,none⟩) hb4
 have hf:∀ j,w5.frozen? ⟨b,j,none⟩=w4.frozen? ⟨b,j,none⟩:=fun j=>World.frozen?_of_block (a:=⟨b,j,none⟩) hb4
 have hcell:∀ j,j≠7→j≠8→(w5.setCell ⟨b,8,none⟩ v5).cell? ⟨b,j,none⟩=w.cell? ⟨b,j,none⟩:=fun j h7 h8=>(setP_ne _ _ _ _ _ (by omega)).trans ((hc j).trans (M.cell j h7))
 have hblock:∀ i,i<w.heap.size→i≠b→vN.ownBlock≠some i→vG.ownBlock≠some i→(w5.setCell ⟨b,8,none⟩ v5).heap[i]?=w.heap[i]?:=fun i hi hb h1 h2=>
  (Below.heap_setCell _ _ _ _ (by show i≠b;omega)).trans ((a5 i (by omega) h2).trans (M.block i hi hb h1))
 have hsize:w.heap.size≤(w5.setCell ⟨b,8,none⟩ v5).heap.size:=by simpa[World.setCell] using(show w.heap.size≤w5.heap.size by omega)
 have hfar:FarP b vN vG w (w5.setCell ⟨b,8,none⟩ v5):=⟨a1.trans M.os,a2.trans M.tape,a3.trans M.output,hsize,hblock⟩;obtain⟨a,p,x2,x3,x4,x5,x6⟩:=h.ex;obtain⟨e,p',y5,y6,y7⟩:=h.ey
 refine⟨hfar,⟨(hcell 0 (by decide) (by decide)).trans h.c0,(hcell 1 (by decide) (by decide)).trans h.c1,⟨a,p,(hcell 2 (by decide) (by decide)).trans x2,(hcell 3 (by decide) (by decide)).trans x3,x4,x5,x6⟩,(hcell 4 (by decide) (by decide)).trans h.c4,⟨e,p',(hcell 5 (by decide) (by decide)).trans y5,(hcell 6 (by decide) (by decide)).trans y6,y7⟩,
  (setP_ne _ _ _ _ _ (by omega)).trans ((hc 7).trans M.cell7),setP_same _ _ _ _ _ ((hc 8).trans ((M.cell 8 (by decide)).trans h.c8)),fun j hj=>(World.frozen?_setCell ..).trans ((hf j).trans ((M.fr j).trans (h.fr j hj))),⟨⟨ns,ats,?_,?_,hlen,h0,hq⟩,fun g hg2 e2=>?_⟩,h.row.keep ?_,h.fit,h.le,h.oks,h.few⟩,M.fN,fun g hgg=>?_⟩
 ·refine row_kept M.row fun g hgv=>?_
  have hlt:=(M.row.lt g hgv);exact(Below.heap_setCell _ _ _ _ (by show g≠b;omega)).trans (a5 g (by omega) (fun e=>M.ap g e hgv))
 ·exact row_kept hown fun g hgv=>Below.heap_setCell _ _ _ _ (fun e=>hv5 (by rw[hgv,e]))
 ·rcases hat with hat | hat
  ·exact M.ap g (by rw[←hat,e2]) hg2
  ·rw[hat] at e2
   injection e2 with e2
   have:=(M.row.lt g hg2).2;omega
 ·exact⟨hfar.os,hfar.tape,hfar.output,hfar.size,fun i hi=>hblock i (by omega) (by omega) (fun e=>by have:=(hab.1 _ e).1;omega) (fun e=>by have:=(hab.2 _ e).1;omega)⟩
 ·rcases hat with hat | hat
  ·exact .inl (by rw[←hat,hgg])
  ·rw[hat] at hgg
   injection hgg with hgg
   exact .inr (by omega)
theorem cell_one_set (w:World) (c j:Nat) (v x:Value) (T:TypeId):∀ i u,[x][i]?=some u→((w.setCell ⟨c,j,none⟩ v).alloc (.cells #[x] T)).cell? ((⟨w.heap.size,0,none⟩:Addr).add i)=some u:=fun i u hu=>by
 have hs:(w.setCell ⟨c,j,none⟩ v).heap.size=w.heap.size:=by simp[World.setCell]
 have:=cell_one_new (w.setCell ⟨c,j,none⟩ v) x T i u hu;rwa [hs] at this
theorem DocP.midG {b:Nat} {w w4:World} {S:ByteArray} {A:Option Addr} {n c:Nat} {l:List Tok} {k o:Nat} {sf:Sf} {gs:Gs} {qq:Nat} {vN vG v2:Value} {m m':Nat} {xs ys:List Value} {e:TypeId} (h:DocP b w S A n c l k o sf gs qq vN vG) (M:MidP b w w4 vN vG v2 m xs) (hr:w.ownsRow (b+1) e 1 vG m' ys):w4.ownsRow (b+1) e 1 vG m' ys:=
 row_kept hr fun g hg=>M.block g (h.own.above.2 g hg).2 (by have:=(h.own.above.2 g hg).1;omega) (fun e=>h.own.ap g e hg)
def Rp.gss {α:Type}:Rp α→Gs | .ok _ _ _ g=>g | .bad _=>[]
theorem infoStP:(Tryz.prog.info? 9).map (fun i=>(i.zero,i.size,i.bytes))=some (some (.string ⟨#[]⟩),1,16):=by kernel_rfl
theorem infoInP:(Tryz.prog.info? 3).map (fun i=>(i.zero,i.size,i.bytes))=some (some (.int .i64 0),1,8):=by kernel_rfl
theorem pto_walk (b:Nat) (w:World) (S:ByteArray) (A:Option Addr) (n c:Nat) (l:List Tok) (k o k1 o1 k2 o2:Nat) (W:Bs) (u:Nat) (sf:Sf) (gs gs':Gs) (qq:Nat) (vN vG:Value) (h:DocP b w S A n c l k o sf gs qq vN vG) (hq:gs.length+qq≤100000) (hgs:gs'=gs++[(W,u)]∨(¬ o2=0∧gs'=gs))
  (K1:NeeP b S A n c l 1 ⟨#[103,111,116,111]⟩ k o k1 o1 sf gs qq vN vG)
  (K2:Hid (∀ w',DocP b w' S A n c l k1 o1 sf gs qq vN vG→Calls Tryz.prog 35 #[.pointer (some ⟨b,0,none⟩)] w' fun e w2=>e= .returned (.tuple #[.string ⟨W.toArray⟩,.int .i64 u])∧StepP b w' S A n c l k2 o2 sf gs qq vN vG w2)):
  Calls Tryz.prog 66 #[.pointer (some ⟨b,0,none⟩)] w fun e w'=>∃ (x:Nat) (vN' vG':Value),e= .returned (.int .i64 x)∧WentP b w S A n c l vN vG k2 o2 sf gs' (qq+1) vN' vG' w'∧(o2=0→x=gs.length):=by
 have H:=Lib.hid h;have hbl:=h.lt;obtain⟨T,hT⟩:∃ T:ByteArray,T=⟨W.toArray⟩:=⟨_,rfl⟩;rw[←hT] at K2;have HT:=Lib.hid hT;clear hT;obtain⟨i0,hi0,hz0,hz1,hz2⟩:=info_parts infoStP;obtain⟨j0,hj0,hy0,hy1,hy2⟩:=info_parts infoInP;clear h;go_enter Tryz.func66,Tryz.ntmps66
 go_wp2_with (first
  | (go_at_call 32;go_must (((with_reducible refine(K1.out _ H.out).mono ?_));rintro e w1 ⟨rfl,hs1⟩;have H1:=Lib.hid hs1;clear hs1))
  | (go_at_call 35;go_must (((with_reducible refine(K2.out _ H1.out.2).mono ?_));rintro e w2 ⟨rfl,hs2⟩;have H2:=Lib.hid (show StepP b w S A n c l k2 o2 sf gs qq vN vG w2 from⟨grnP_trans H1.out.1 hs2.1,hs2.2⟩);have d7:=hs2.2.c7;have d8:=hs2.2.c8;obtain⟨ns,ats,r1,r2,el,e0,eq⟩:=hs2.2.own.ex;have hlt2:=hs2.2.lt;have hnb:=hs2.2.own_ne;have HR2:=Lib.hid r2;have HE:=Lib.hid (And.intro el (And.intro e0 eq));have hn:ns.length≤100000:=(by omega);have hn2:ats.length≤100000:=(by omega);have HB:Hid (b+1≤w2.heap.size):=Lib.hid hlt2;clear hs2 el e0 eq))
  | (at_builtin;refine wpList_append_own_at _ rfl (.tmp 16) (.tmp 18) 50 rfl (b+1) 9 i0 (.string ⟨#[]⟩) 1 16 Tryz.underlying50 hi0 hz0 hz1 hz2 rfl (by decide) _ _ _ rfl (r1.alloc _) ⟨w2.heap.size,0,none⟩ 1 1 [.string T] rfl rfl (cell_one_new _ _ _) (by simp[Value.oneCell']) (by unfold maxLen;omega) (by omega) (Nat.le_trans HB.out (one_boxP w2 _).size) ?_;go_must (intro v2 w3 hown hgrow _ hat;obtain⟨g2,cap2,rfl,hg2,hg3⟩:=hown.form (by omega);have HM:=Lib.hid (H2.out.2.mid hown hgrow hat);have e7:=(H2.out.2.row_cells hgrow hnb.1 7).1.trans d7;have e8:=(H2.out.2.row_cells hgrow hnb.1 8).1.trans d8;have f7:=(H2.out.2.row_cells hgrow hnb.1 7).2.trans (H2.out.2.fr 7 (by decide));have hz4:=HM.out.size;have hrG:=H2.out.2.midG HM.out HR2.out;clear hown hgrow hat))
  | (at_builtin;refine wpList_append_own_at _ rfl (.tmp 26) (.tmp 28) 68 rfl (b+1) 3 j0 (.int .i64 0) 1 8 Tryz.underlying68 hj0 hy0 hy1 hy2 rfl (by decide) _ _ _ rfl (hrG.alloc _) ⟨w3.heap.size,0,none⟩ 1 1 [.int .i64 u] rfl rfl (cell_one_set _ _ _ _ _ _) (by simp[Value.oneCell']) (by unfold maxLen;omega) (by omega) (Nat.le_trans HB.out (Nat.le_trans hz4 (one_boxP _ _).size)) ?_;go_must (intro v5 w5 hown5 hgrow5 _ hat5;obtain⟨g5,cap5,rfl,hg5,hg6⟩:=hown5.form (by omega);have hbk:=(far_one hgrow5).2.2.2.2 b (by omega) hnb.2;have p8:=(World.cell?_of_block (a:=⟨b,8,none⟩) hbk).trans ((HM.out.cell 8 (by decide)).trans d8);have p7:=(World.cell?_of_block (a:=⟨b,7,none⟩) hbk).trans HM.out.cell7;have q8:=(World.frozen?_of_block (a:=⟨b,8,none⟩) hbk).trans ((HM.out.fr 8).trans (H2.out.2.fr 8 (by decide)));have HO:=Lib.hid hown5;have HG:=Lib.hid hgrow5;have HA:=Lib.hid hat5;clear hown5 hgrow5 hat5 hbk)))
 obtain⟨el,e0,eq⟩:=HE.out;have e1:strsP ns++[Value.string T]=strsP (ns++[W]):=by rw[HT.out];simp[strsP]
 have e2:atsP ats++[Value.int .i64 (u:Int)]=atsP (ats++[u]):=by simp[atsP]
 have M:MidP b w2 (w3.setCell ⟨b,7,none⟩ (.slice (some ⟨g2,0,none⟩) (ns.length+1) cap2)) vN vG (.slice (some ⟨g2,0,none⟩) (ns.length+1) cap2) (ns++[W]).length (strsP (ns++[W])):=by rw[←e1,List.length_append];exact HM.out
 have O:w5.ownsRow (b+1) 3 1 (.slice (some ⟨g5,0,none⟩) (ats.length+1) cap5) (ats++[u]).length (atsP (ats++[u])):=by rw[←e2,List.length_append];exact HO.out
 have G:((w3.setCell ⟨b,7,none⟩ (.slice (some ⟨g2,0,none⟩) (ns.length+1) cap2)).alloc (.cells #[.int .i64 u] 3)).grownBy w5 vG.ownBlock:=HG.out
 have hd:=H2.out.2.done (gs':=gs') (qq':=qq+1) M O G HA.out (by simp[el]) (fun ho2=>by
  rcases hgs with rfl | ⟨hn2,_⟩
  ·obtain⟨q1,q2⟩:=e0 ho2
   exact⟨by rw[q1];simp,by rw[q2];simp⟩
  ·exact absurd ho2 hn2) (by
  rcases hgs with rfl | ⟨_,rfl⟩
  ·simp;omega
  ·simp;omega)
 go_ret;refine⟨ns.length,_,_,?_,(WentP.of H2.out).trans hd,fun ho2=>?_⟩
 ·first | rfl | (refine ret_int ?_;omega) | (refine ret_int ?_;simp)
 ·rw[(e0 ho2).1];simp
theorem pto_any (b:Nat) (w:World) (S:ByteArray) (A:Option Addr) (n c:Nat) (l:List Tok) (k o:Nat) (sf:Sf) (gs:Gs) (qq:Nat) (vN vG:Value) (h:DocP b w S A n c l k o sf gs qq vN vG) (hq:gs.length+qq≤100000) {R:Rp Int} (hR:gateR o k (toP l gs.length k)=R):
  Calls Tryz.prog 66 #[.pointer (some ⟨b,0,none⟩)] w fun e w'=>∃ (x:Nat) (vN' vG':Value),e= .returned (.int .i64 x)∧WentP b w S A n c l vN vG R.at R.err sf (gs++R.gss) (qq+1) vN' vG' w'∧∀ y j s g,R= .ok y j s g→y=x:=by
 subst hR;have K1:=neeP b S A n c l 1 (by decide) ⟨#[103,111,116,111]⟩ k o sf gs qq vN vG h.oks;have en:needP l 1 (⟨#[103,111,116,111]⟩:ByteArray).data.toList k=needP l 1 wGoto k:=rfl;rw[en] at K1;have K2:∀ k1 o1,NamP b S A n c l k1 o1 (gateR o1 k1 (nameP l k1)) sf gs qq vN vG:=fun k1 o1=>namP b S A n c l k1 o1 sf gs qq vN vG rfl
 have fell:∀ k1,(gateR o k (needP l 1 wGoto k)).at=k1→(gateR o k (needP l 1 wGoto k)).err=1→gateR o k (toP l gs.length k)= .bad k1→Calls Tryz.prog 66 #[.pointer (some ⟨b,0,none⟩)] w fun e w'=>∃ (x:Nat) (vN' vG':Value),e= .returned (.int .i64 x)∧WentP b w S A n c l vN vG (gateR o k (toP l gs.length k)).at (gateR o k (toP l gs.length k)).err sf (gs++(gateR o k (toP l gs.length k)).gss) (qq+1) vN' vG' w'∧∀ y j s g,gateR o k (toP l gs.length k)= .ok y j s g→y=x:=fun k1 h1 h2 h3=>by
  rw[h1,h2] at K1;have K3:=K2 k1 1
  refine(pto_walk b w S A n c l k o k1 1 k1 1 [] 0 sf gs gs qq vN vG h hq (.inr ⟨by decide,rfl⟩) K1 (Lib.hid fun w' h'=>(K3.out w' h').mono fun e w2 ⟨W,u,p1,p2,_,p4⟩=>by
   obtain⟨rfl,rfl⟩:=p4 Rp.bad_ne;exact⟨p1,p2⟩)).mono fun e w' ⟨x,v1,v2,p1,p2,_⟩=>⟨x,v1,v2,p1,?_,?_⟩
  ·rw[h3,show (gs++(Rp.bad k1:Rp Int).gss)=gs from List.append_nil _];exact p2
  ·rw[h3];intro y j s g hy;cases hy
 rcases h.oks with rfl | rfl
 ·by_cases e1:isP l 1 wGoto k=true
  ·have e2:needP l 1 wGoto k= .ok () (k+1) [] []:=by unfold needP;rw[if_pos e1]
   have e3:gateR 0 k (toP l gs.length k)=(nameP l (k+1)).then fun w j=> .ok (gs.length:Int) j [] [(w,k+1)]:=by
    show toP l gs.length k=_;unfold toP;rw[e2];simp only[Rp.then]
    cases nameP l (k+1) <;> rfl
   have K1:NeeP b S A n c l 1 ⟨#[103,111,116,111]⟩ k 0 (k+1) 0 sf gs qq vN vG:=by
    have e4:gateR 0 k (needP l 1 wGoto k)= .ok () (k+1) [] []:=e2;rw[e4] at K1;exact K1
   have K3:=K2 (k+1) 0
   cases e5:nameP l (k+1) with
   | ok W j s g=>
     obtain⟨rfl,rfl,rfl, -⟩:=name_ok e5;have e6:gateR 0 (k+1) (nameP l (k+1))= .ok W (k+1+1) [] []:=e5;rw[e6] at K3;rw[e3,e5]
     refine(pto_walk b w S A n c l k 0 (k+1) 0 (k+1+1) 0 W (k+1) sf gs (gs++[(W,k+1)]) qq vN vG h hq (.inl rfl) K1 (Lib.hid fun w' h'=>(K3.out w' h').mono fun e w2 ⟨W',u,p1,p2,p3,_⟩=>by
      obtain⟨rfl,rfl⟩:=p3 _ _ _ _ rfl
      exact⟨p1,p2⟩)).mono fun e w' ⟨x,v1,v2,p1,p2,p3⟩=>⟨x,v1,v2,p1,p2,fun y j s g hy=>by
       injection hy with hy
       rw[←hy,p3 rfl]⟩
   | bad j=>
     have hj:j=k+1:=by
      unfold nameP at e5
      split at e5
      ·cases e5
      ·injection e5 with e5;exact e5.symm
     subst hj;have e6:gateR 0 (k+1) (nameP l (k+1))= .bad (k+1):=e5;rw[e6] at K3;rw[e3,e5]
     refine(pto_walk b w S A n c l k 0 (k+1) 0 (k+1) 1 [] 0 sf gs gs qq vN vG h hq (.inr ⟨by decide,rfl⟩) K1 (Lib.hid fun w' h'=>(K3.out w' h').mono fun e w2 ⟨W',u,p1,p2,_,p4⟩=>by
      obtain⟨rfl,rfl⟩:=p4 Rp.bad_ne;exact⟨p1,p2⟩)).mono fun e w' ⟨x,v1,v2,p1,p2,_⟩=>⟨x,v1,v2,p1,?_,fun y j s g hy=>by cases hy⟩
     show WentP b w S A n c l vN vG (k+1) 1 sf (gs++[]) (qq+1) v1 v2 w';rw[List.append_nil];exact p2
  ·have e2:gateR 0 k (needP l 1 wGoto k)= .bad k:=by show needP l 1 wGoto k=_;unfold needP;rw[if_neg e1]
   exact fell k (by rw[e2];rfl) (by rw[e2];rfl) (by
    show toP l gs.length k=_;have e2:needP l 1 wGoto k= .bad k:=e2;unfold toP;rw[e2];rfl)
 ·exact fell k rfl rfl rfl
end
end Go.Proofs.YtdobinjbejagcaaGreatDoor
