import Derived.Test.YtngfihoempcplaaGreatDoorEx16
import Derived.Test.YtngfihoempcplaaGreatDoorName2
import Derived.IntWalk
import Derived.Test.YtngfihoempcplaaGreatDoorQRead
import Derived.Test.YtngfihoempcplaaGreatDoorTkQ
namespace Go.Proofs.YtngfihoempcplaaGreatDoor
open Go Go.RowKit
set_option maxRecDepth 100000
set_option maxHeartbeats 4000000
structure MidO (b:Nat) (w W:World) (A:Option Addr) (n c:Nat) (l:List Tok) (j:Nat):Prop where
 boxQ:Box5 W w.heap.size (.int .i64 0) (.int .i64 0) (.string ⟨#[]⟩) (.string ⟨#[]⟩) (.slice none 0 0)
 grown:w.grownBy W (some b)
 rd:RdC b W A n c l j
 size:w.heap.size+1≤W.heap.size
theorem MidO.first {b:Nat} {w W:World} {A:Option Addr} {n c:Nat} {l:List Tok} {k:Nat} (hr:RdC b w A n c l k) (hb:Below (w.alloc zeroX).heap.size (w.alloc zeroX) W):MidO b w W A n c l k:=by
 have hs:(w.alloc zeroX).heap.size=w.heap.size+1:=size_allocX _ _;have h0:Below w.heap.size w W:=(one_boxX w _).trans (hb.mono (by omega));exact⟨(Box5.new w _ _ _ _ _ _).low hb,grown_below h0,hr.low h0,by have:=hb.size;omega⟩
theorem MidO.more {b:Nat} {w W W':World} {A:Option Addr} {n c:Nat} {l:List Tok} {k j:Nat} (h:MidO b w W A n c l k) (hlt:b<w.heap.size) (hg:W.grownBy W' (some b)) (hr:RdC b W' A n c l j):MidO b w W' A n c l j:=
 ⟨h.boxQ.grown hg (by omega),grown_trans h.grown hg,hr,by have:=h.size;have:=hg.size;omega⟩
theorem MidO.low {b:Nat} {w W W':World} {A:Option Addr} {n c:Nat} {l:List Tok} {k:Nat} (h:MidO b w W A n c l k) (hlt:b<w.heap.size) (hb:Below W.heap.size W W'):MidO b w W' A n c l k:=h.more hlt (grown_below hb) (h.rd.low hb)
theorem PostC.form {b:Nat} {w w':World} {A:Option Addr} {n c:Nat} {l:List Tok} {r:Rs} {e:Ending} (h:PostC b w A n c l r e w'):∃ (v0 v1:Int) (v2 v3:ByteArray) (A4:Option Addr) (n4 c4:Nat) (er:Nat),e= .returned (.tuple #[.agg #[.int .i64 v0,.int .i64 v1,.string v2,.string v3,.slice A4 n4 c4],.int .i64 er])∧Hid (PostC b w A n c l r (.returned (.tuple #[.agg #[.int .i64 v0,.int .i64 v1,.string v2,.string v3,.slice A4 n4 c4],.int .i64 er])) w'):=by
 cases r with
 | ok x j=>
   have h0:=h;obtain⟨hg,⟨A',c',rfl,hk⟩,hr⟩:=h;exact⟨_,_,_,_,_,_,_,0,rfl,Lib.hid h0⟩
 | bad j er=>
   have h0:=h;obtain⟨hg,rfl,hr⟩:=h;exact⟨_,_,_,_,_,_,_,er,rfl,Lib.hid h0⟩
theorem postc_pass {b:Nat} {w w1 w2 W3:World} {A:Option Addr} {n c:Nat} {l:List Tok} {r:Rs} {v v0 v1 v2 v3 v4:Value} (h:PostC b w1 A n c l r (.returned v) w2) (hlt:b<w.heap.size) (hw:w.grownBy w1 (some b)) (hs:w.heap.size+1≤w1.heap.size)
  (h3:W3=put5 w2 w.heap.size v0 v1 v2 v3 v4):PostC b w A n c l r (.returned v) W3:=by
 have hs3:W3.heap.size=w2.heap.size:=by rw[h3,size_put5]
 have hg3:w1.grownBy w2 (some b)→w.grownBy W3 (some b):=fun hg=>by rw[h3];exact grown_put5 (grown_trans hw hg) (Nat.le_refl _) _ _ _ _ _
 cases r with
 | ok x j=>
   obtain⟨hg,⟨A',c',he,hk⟩,hr⟩:=h;refine⟨hg3 hg,⟨A',c',he,?_⟩,by rw[h3];exact hr.put5 hlt _ _ _ _ _⟩;rw[hs3,h3];exact(hk.put5 (fun hq=>by have:=hq.1;omega) _ _ _ _ _).to (by omega) (Nat.le_refl _)
 | bad j er=>
   obtain⟨hg,he,hr⟩:=h;exact⟨hg3 hg,he,by rw[h3];exact hr.put5 hlt _ _ _ _ _⟩
theorem operand_num (b:Nat) (w:World) (A:Option Addr) (n c:Nat) (l:List Tok) (k d:Nat) (h:RdC b w A n c l k) (hf:FitL l) (hk:k≤n) (t:Tok) (ht:nxt l k=t) (h2:t.kind=2):
  Calls Tryz.prog 153 #[.pointer (some ⟨b,0,none⟩),.int .i64 d] w (PostC b w A n c l (.ok (exNum t.n) (k+1))):=by
 have hlt:=h.lt;have hkb:k≤1000000:=by have:=h.row.1;have:=hf.len;omega
 have HM0:Hid (∀ W,Below (w.alloc zeroX).heap.size (w.alloc zeroX) W→MidO b w W A n c l k):=Lib.hid fun W hb=>MidO.first h hb
 have KN:Hid (∀ w,RdC b w A n c l k→Calls Tryz.prog 176 #[.pointer (some ⟨b,0,none⟩)] w (NextP w t)):=Lib.hid fun w h=>by rw[←ht];exact next_any b w A n c l k h hf hk
 have H1:=Lib.hid (HM0.out _ (Below.refl _ _)).rd;unfold NextP at KN;rw[h2] at KN;clear h hf hk ht h2;go_enter Tryz.func153,Tryz.ntmps153;go_wp2_with (go_at_call 176;go_must ((with_reducible refine(KN.out _ H1.out).mono ?_);rintro e w1 ⟨A1,c1,rfl,hb1⟩;have HM:=Lib.hid (HM0.out _ hb1);clear hb1;obtain⟨d0,d1,d2,d3,d4,_⟩:=HM.out.boxQ;obtain⟨e0,e1,e2,e3,e4⟩:=HM.out.boxQ.freed;have hsz:w.heap.size<w1.heap.size:=HM.out.size;have hr0:=HM.out.rd.c0;have hr1:=HM.out.rd.c1;have hr2:=HM.out.rd.f1;have hl1:=HM.out.rd.lt));obtain⟨W,hW⟩:∃ W,W=w1.setCell ⟨b,1,none⟩ (.int .i64 ((k:Int)+1)):=⟨_,rfl⟩;have hm:MidO b w W A n c l (k+1):=by rw[hW];exact HM.out.more hlt (grown_set b 1 _ _) (HM.out.rd.placez (k+1) _ (by omega))
 obtain⟨W3,hW3⟩:∃ W3,W3=(put5 W w.heap.size (.int .i64 0) (.int .i64 t.n) (.string ⟨#[]⟩) (.string ⟨#[]⟩) (.slice none 0 0)).alloc (.cells #[.int .i64 2,.string ⟨t.word.toArray⟩,.int .i64 t.n,.slice A1 t.parts.length c1,.int .i64 t.pl] 53):=⟨_,rfl⟩;have HE:EndQ b w.heap.size w W3 A n c l (k+1) (.int .i64 0) (.int .i64 t.n) (.string ⟨#[]⟩) (.string ⟨#[]⟩) (.slice none 0 0):=end_q hlt (Nat.le_refl _) hm.boxQ hm.grown hm.rd (by rw[hW3];exact one_boxX _ _);rw[←hW,←hW3];clear hW hW3 d0 d1 d2 d3 d4;obtain⟨d0,d1,d2,d3,d4,_⟩:=HE.box;exact bodyPost_ret (v:= .tuple #[.agg #[.int .i64 0,.int .i64 t.n,.string ⟨#[]⟩,.string ⟨#[]⟩,.slice none 0 0],.int .i64 0]) (by simp[results,Tryz.results153,go_sem,d0,d1,d2,d3,d4]) rfl ⟨HE.grown,⟨none,0,rfl,KidsX.leaf _ _ _ _ _ _ _⟩,HE.rd⟩
theorem operand_var (b:Nat) (w:World) (A:Option Addr) (n c:Nat) (l:List Tok) (k d:Nat) (h:RdC b w A n c l k) (hf:FitL l) (hk:k≤n) (t:Tok) (ht:nxt l k=t) (h2:t.kind=6):
  Calls Tryz.prog 153 #[.pointer (some ⟨b,0,none⟩),.int .i64 d] w (PostC b w A n c l (.ok (exVar t.word) (k+1))):=by
 have hlt:=h.lt;have hkb:k≤1000000:=by have:=h.row.1;have:=hf.len;omega
 have HM0:Hid (∀ W,Below (w.alloc zeroX).heap.size (w.alloc zeroX) W→MidO b w W A n c l k):=Lib.hid fun W hb=>MidO.first h hb
 have KN:Hid (∀ w,RdC b w A n c l k→Calls Tryz.prog 176 #[.pointer (some ⟨b,0,none⟩)] w (NextP w t)):=Lib.hid fun w h=>by rw[←ht];exact next_any b w A n c l k h hf hk
 have H1:=Lib.hid (HM0.out _ (Below.refl _ _)).rd;unfold NextP at KN;rw[h2] at KN
 have hw1:t.word.length≤100000:=by
  rw[←ht];unfold nxt
  cases hl:l[k]? with
  | none=>simp
  | some t=>exact(hf.fit t (List.mem_of_getElem? hl)).word
 obtain⟨S,hS⟩:∃ S:ByteArray,S=⟨t.word.toArray⟩:=⟨_,rfl⟩;have hSz:S.size≤281474976710656:=by rw[←len_data,hS];show t.word.length≤_;omega
 have KC:=Lib.hid fun w=>tclone_any S hSz w
 rw[←hS] at KN;have HSS:=Lib.hid hS;clear h hf hk ht h2 hS hSz hw1;go_enter Tryz.func153,Tryz.ntmps153;go_wp2_with (first | (go_at_call 176;go_must ((with_reducible refine(KN.out _ H1.out).mono ?_);rintro e w1 ⟨A1,c1,rfl,hb1⟩;have HM:=Lib.hid (HM0.out _ hb1);clear hb1;have hsz:w.heap.size<w1.heap.size:=HM.out.size;have hr0:=HM.out.rd.c0;have hr1:=HM.out.rd.c1;have hr2:=HM.out.rd.f1;have hl1:=HM.out.rd.lt)) | (go_at_call 89;go_must ((with_reducible refine(KC.out _).mono ?_);rintro e w5 ⟨rfl,hb5⟩;have HM5:=Lib.hid (((HM.out.more hlt (grown_set b 1 _ (.int .i64 ((k:Int)+1))) (HM.out.rd.placez (k+1) _ (by omega))).low hlt (one_boxX _ _)).low hlt hb5);obtain⟨d0,d1,d2,d3,d4,_⟩:=HM5.out.boxQ;obtain⟨e0,e1,e2,e3,e4⟩:=HM5.out.boxQ.freed)));obtain⟨W3,hW3⟩:∃ W3,W3=put5 w5 w.heap.size (.int .i64 1) (.int .i64 0) (.string S) (.string ⟨#[]⟩) (.slice none 0 0):=⟨_,rfl⟩;have HE:EndQ b w.heap.size w W3 A n c l (k+1) (.int .i64 1) (.int .i64 0) (.string S) (.string ⟨#[]⟩) (.slice none 0 0):=end_q hlt (Nat.le_refl _) HM5.out.boxQ HM5.out.grown HM5.out.rd (by rw[hW3];exact Below.refl _ _);unfold put5 at hW3;rw[←hW3];clear hW3 d0 d1 d2 d3 d4;obtain⟨d0,d1,d2,d3,d4,_⟩:=HE.box;exact bodyPost_ret (v:= .tuple #[.agg #[.int .i64 1,.int .i64 0,.string S,.string ⟨#[]⟩,.slice none 0 0],.int .i64 0]) (by simp[results,Tryz.results153,go_sem,d0,d1,d2,d3,d4]) rfl ⟨HE.grown,⟨none,0,by rw[HSS.out];rfl,KidsX.leaf _ _ _ _ _ _ _⟩,HE.rd⟩
structure SgT (l:List Tok) (k:Nat) (S:ByteArray) (m:Bool) (n:Bool) (p:Bool):Prop where
 b0:(S.toList==[45])=m
 b1:(S.toList==[33])=n
 b2:(S.toList==[40])=p
theorem sgt_of (l:List Tok) (k:Nat) (S:ByteArray) (hS:S=⟨(sg l k).toArray⟩):SgT l k S (decide (sg l k=[45])) (decide (sg l k=[33])) (decide (sg l k=[40])):=
 ⟨(sgB l k S hS [45] _ rfl).1,(sgB l k S hS [33] _ rfl).1,(sgB l k S hS [40] _ rfl).1⟩
theorem operand_signed (b:Nat) (w:World) (A:Option Addr) (n c:Nat) (l:List Tok) (k d:Nat) (h:RdC b w A n c l k) (hf:FitL l) (hk:k≤n) (t:Tok) (ht:nxt l k=t) (h2:t.kind≠2) (h6:t.kind≠6) (kd:Int) (hs:(sg l k=[45]∧kd=2)∨(sg l k=[33]∧kd=3)) (r:Rs)
  (HK:∀ w,RdC b w A n c l k→Calls Tryz.prog 177 #[.pointer (some ⟨b,0,none⟩),.int .i64 kd,.int .i64 d] w (PostC b w A n c l r)):
  Calls Tryz.prog 153 #[.pointer (some ⟨b,0,none⟩),.int .i64 d] w (PostC b w A n c l r):=by
 have hlt:=h.lt;have HM0:Hid (∀ W,Below (w.alloc zeroX).heap.size (w.alloc zeroX) W→MidO b w W A n c l k):=Lib.hid fun W hb=>MidO.first h hb
 have KN:Hid (∀ w,RdC b w A n c l k→Calls Tryz.prog 176 #[.pointer (some ⟨b,0,none⟩)] w (NextP w t)):=Lib.hid fun w h=>by rw[←ht];exact next_any b w A n c l k h hf hk
 have H1:=Lib.hid (HM0.out _ (Below.refl _ _)).rd;unfold NextP at KN;obtain⟨S,hS⟩:∃ S:ByteArray,S=⟨(sg l k).toArray⟩:=⟨_,rfl⟩;have KS:Hid (∀ w,RdC b w A n c l k→Calls Tryz.prog 155 #[.pointer (some ⟨b,0,none⟩)] w fun e w'=>e= .returned (.string S)∧Below w.heap.size w w'):=Lib.hid fun w h=>by rw[hS];exact nextsign_any b w A n c l k h hf hk
 obtain⟨x,hx⟩:∃ x,x=t.kind:=⟨_,rfl⟩;have q2:(x==2)=false:=by rw[hx];simpa using h2
 have q6:(x==6)=false:=by rw[hx];simpa using h6
 rw[←hx] at KN;have K:=Lib.hid HK;obtain⟨s0,s1,_⟩:=sgt_of l k S hS
 rcases hs with ⟨hs,rfl⟩ | ⟨hs,rfl⟩
 all_goals
  rw[hs] at s0 s1;clear h hf hk ht h2 h6 hx HK hS hs;go_enter Tryz.func153,Tryz.ntmps153;go_wp2_with (first | (go_at_call 176;go_must ((with_reducible refine(KN.out _ H1.out).mono ?_);rintro e w1 ⟨A1,c1,rfl,hb1⟩;have HM:=Lib.hid (HM0.out _ hb1);clear hb1)) | (go_at_call 155;go_must ((with_reducible refine(KS.out _ (HM.out.low hlt (one_boxX _ _)).rd).mono ?_);rintro e w3 ⟨rfl,hb3⟩;have HM3:=Lib.hid ((HM.out.low hlt (one_boxX _ _)).low hlt hb3);clear hb3)) | (go_at_call 177;go_must ((with_reducible refine(K.out _ HM3.out.rd).mono ?_);rintro e w4 hp;obtain⟨v0,v1,v2,v3,A4,n4,c4,er,rfl,HP⟩:=hp.form;have HBX:=Lib.hid (HM3.out.boxQ.grown hp.1 (by omega));clear hp;obtain⟨d0,d1,d2,d3,d4,_⟩:=HBX.out;obtain⟨e0,e1,e2,e3,e4⟩:=HBX.out.freed)));obtain⟨W3,hW3⟩:∃ W3,W3=put5 w4 w.heap.size (.int .i64 v0) (.int .i64 v1) (.string v2) (.string v3) (.slice A4 n4 c4):=⟨_,rfl⟩;have HE:=postc_pass HP.out hlt HM3.out.grown HM3.out.size hW3;have HX:=HBX.out.put (.int .i64 v0) (.int .i64 v1) (.string v2) (.string v3) (.slice A4 n4 c4);rw[←hW3] at HX;unfold put5 at hW3;rw[←hW3];clear hW3 d0 d1 d2 d3 d4;obtain⟨d0,d1,d2,d3,d4,_⟩:=HX;exact bodyPost_ret (v:= .tuple #[.agg #[.int .i64 v0,.int .i64 v1,.string v2,.string v3,.slice A4 n4 c4],.int .i64 er]) (by simp[results,Tryz.results153,go_sem,d0,d1,d2,d3,d4]) rfl HE
theorem operand_par (b:Nat) (w:World) (A:Option Addr) (n c:Nat) (l:List Tok) (k d:Nat) (h:RdC b w A n c l k) (hf:FitL l) (hk:k≤n) (t:Tok) (ht:nxt l k=t) (h2:t.kind≠2) (h6:t.kind≠6) (hs:sg l k=[40]) (r:Rs)
  (HK:∀ w,RdC b w A n c l k→Calls Tryz.prog 178 #[.pointer (some ⟨b,0,none⟩),.int .i64 d] w (PostC b w A n c l r)):
  Calls Tryz.prog 153 #[.pointer (some ⟨b,0,none⟩),.int .i64 d] w (PostC b w A n c l r):=by
 have hlt:=h.lt;have HM0:Hid (∀ W,Below (w.alloc zeroX).heap.size (w.alloc zeroX) W→MidO b w W A n c l k):=Lib.hid fun W hb=>MidO.first h hb
 have KN:Hid (∀ w,RdC b w A n c l k→Calls Tryz.prog 176 #[.pointer (some ⟨b,0,none⟩)] w (NextP w t)):=Lib.hid fun w h=>by rw[←ht];exact next_any b w A n c l k h hf hk
 have H1:=Lib.hid (HM0.out _ (Below.refl _ _)).rd;unfold NextP at KN;obtain⟨S,hS⟩:∃ S:ByteArray,S=⟨(sg l k).toArray⟩:=⟨_,rfl⟩;have KS:Hid (∀ w,RdC b w A n c l k→Calls Tryz.prog 155 #[.pointer (some ⟨b,0,none⟩)] w fun e w'=>e= .returned (.string S)∧Below w.heap.size w w'):=Lib.hid fun w h=>by rw[hS];exact nextsign_any b w A n c l k h hf hk
 obtain⟨x,hx⟩:∃ x,x=t.kind:=⟨_,rfl⟩;have q2:(x==2)=false:=by rw[hx];simpa using h2
 have q6:(x==6)=false:=by rw[hx];simpa using h6
 rw[←hx] at KN;have K:=Lib.hid HK;obtain⟨s0,s1,s2⟩:=sgt_of l k S hS;rw[hs] at s0 s1 s2;clear h hf hk ht h2 h6 hx HK hS hs;go_enter Tryz.func153,Tryz.ntmps153;go_wp2_with (first | (go_at_call 176;go_must ((with_reducible refine(KN.out _ H1.out).mono ?_);rintro e w1 ⟨A1,c1,rfl,hb1⟩;have HM:=Lib.hid (HM0.out _ hb1);clear hb1)) | (go_at_call 155;go_must ((with_reducible refine(KS.out _ (HM.out.low hlt (one_boxX _ _)).rd).mono ?_);rintro e w3 ⟨rfl,hb3⟩;have HM3:=Lib.hid ((HM.out.low hlt (one_boxX _ _)).low hlt hb3);clear hb3)) | (go_at_call 178;go_must ((with_reducible refine(K.out _ HM3.out.rd).mono ?_);rintro e w4 hp;obtain⟨v0,v1,v2,v3,A4,n4,c4,er,rfl,HP⟩:=hp.form;have HBX:=Lib.hid (HM3.out.boxQ.grown hp.1 (by omega));clear hp;obtain⟨d0,d1,d2,d3,d4,_⟩:=HBX.out;obtain⟨e0,e1,e2,e3,e4⟩:=HBX.out.freed)));obtain⟨W3,hW3⟩:∃ W3,W3=put5 w4 w.heap.size (.int .i64 v0) (.int .i64 v1) (.string v2) (.string v3) (.slice A4 n4 c4):=⟨_,rfl⟩;have HE:=postc_pass HP.out hlt HM3.out.grown HM3.out.size hW3;have HX:=HBX.out.put (.int .i64 v0) (.int .i64 v1) (.string v2) (.string v3) (.slice A4 n4 c4);rw[←hW3] at HX;unfold put5 at hW3;rw[←hW3];clear hW3 d0 d1 d2 d3 d4;obtain⟨d0,d1,d2,d3,d4,_⟩:=HX;exact bodyPost_ret (v:= .tuple #[.agg #[.int .i64 v0,.int .i64 v1,.string v2,.string v3,.slice A4 n4 c4],.int .i64 er]) (by simp[results,Tryz.results153,go_sem,d0,d1,d2,d3,d4]) rfl HE
theorem operand_none (b:Nat) (w:World) (A:Option Addr) (n c:Nat) (l:List Tok) (k d:Nat) (h:RdC b w A n c l k) (hf:FitL l) (hk:k≤n) (t:Tok) (ht:nxt l k=t) (h2:t.kind≠2) (h6:t.kind≠6) (hs:¬ pre3 (sg l k)):
  Calls Tryz.prog 153 #[.pointer (some ⟨b,0,none⟩),.int .i64 d] w (PostC b w A n c l (.bad k 1)):=by
 have hlt:=h.lt;have HM0:Hid (∀ W,Below (w.alloc zeroX).heap.size (w.alloc zeroX) W→MidO b w W A n c l k):=Lib.hid fun W hb=>MidO.first h hb
 have KN:Hid (∀ w,RdC b w A n c l k→Calls Tryz.prog 176 #[.pointer (some ⟨b,0,none⟩)] w (NextP w t)):=Lib.hid fun w h=>by rw[←ht];exact next_any b w A n c l k h hf hk
 have H1:=Lib.hid (HM0.out _ (Below.refl _ _)).rd;unfold NextP at KN;obtain⟨S,hS⟩:∃ S:ByteArray,S=⟨(sg l k).toArray⟩:=⟨_,rfl⟩;have KS:Hid (∀ w,RdC b w A n c l k→Calls Tryz.prog 155 #[.pointer (some ⟨b,0,none⟩)] w fun e w'=>e= .returned (.string S)∧Below w.heap.size w w'):=Lib.hid fun w h=>by rw[hS];exact nextsign_any b w A n c l k h hf hk
 obtain⟨x,hx⟩:∃ x,x=t.kind:=⟨_,rfl⟩;have q2:(x==2)=false:=by rw[hx];simpa using h2
 have q6:(x==6)=false:=by rw[hx];simpa using h6
 rw[←hx] at KN;obtain⟨s0,s1,s2⟩:=sgt_of l k S hS;rw[decide_eq_false (fun e=>hs (.inl e))] at s0;rw[decide_eq_false (fun e=>hs (.inr (.inl e)))] at s1;rw[decide_eq_false (fun e=>hs (.inr (.inr e)))] at s2;clear h hf hk ht h2 h6 hx hS hs;go_enter Tryz.func153,Tryz.ntmps153;go_wp2_with (first | (go_at_call 176;go_must ((with_reducible refine(KN.out _ H1.out).mono ?_);rintro e w1 ⟨A1,c1,rfl,hb1⟩;have HM:=Lib.hid (HM0.out _ hb1);clear hb1)) | (go_at_call 155;go_must ((with_reducible refine(KS.out _ (HM.out.low hlt (one_boxX _ _)).rd).mono ?_);rintro e w3 ⟨rfl,hb3⟩;have HM3:=Lib.hid ((HM.out.low hlt (one_boxX _ _)).low hlt hb3);clear hb3;obtain⟨d0,d1,d2,d3,d4,_⟩:=HM3.out.boxQ;obtain⟨e0,e1,e2,e3,e4⟩:=HM3.out.boxQ.freed)));obtain⟨W3,hW3⟩:∃ W3,W3=put5 w3 w.heap.size (.int .i64 0) (.int .i64 0) (.string ⟨#[]⟩) (.string ⟨#[]⟩) (.slice none 0 0):=⟨_,rfl⟩;have HE:EndQ b w.heap.size w W3 A n c l k (.int .i64 0) (.int .i64 0) (.string ⟨#[]⟩) (.string ⟨#[]⟩) (.slice none 0 0):=end_q hlt (Nat.le_refl _) HM3.out.boxQ HM3.out.grown HM3.out.rd (by rw[hW3];exact Below.refl _ _);unfold put5 at hW3;rw[←hW3];clear hW3 d0 d1 d2 d3 d4;obtain⟨d0,d1,d2,d3,d4,_⟩:=HE.box;exact bodyPost_ret (v:= .tuple #[.agg #[.int .i64 0,.int .i64 0,.string ⟨#[]⟩,.string ⟨#[]⟩,.slice none 0 0],.int .i64 1]) (by simp[results,Tryz.results153,go_sem,d0,d1,d2,d3,d4]) rfl ⟨HE.grown,rfl,HE.rd⟩
def placeW (b:Nat) (w:World):Nat:=(intOf ((w.cell? ⟨b,1,none⟩).getD (.int .i64 0))).toNat
theorem placeW_of {b:Nat} {w:World} {A:Option Addr} {n c:Nat} {l:List Tok} {p:Nat} (h:RdC b w A n c l p):placeW b w=p:=by unfold placeW;rw[h.c1];simp[intOf]
def NoX (lo c hi:Nat):Nat→Prop:=fun q=>lo≤q∧q<hi∧q≠c
structure LoopOk (b:Nat) (w:World) (cb:Nat) (A:Option Addr) (n c:Nat) (l:List Tok) (m k d:Nat) (r:Rs) (wr:World) (x:Ex) (p:Nat) (A1:Option Addr) (c1:Nat):Prop where
 mid:MidO b w wr A n c l p
 box:Box5 wr cb (.int .i64 x.kind) (.int .i64 x.n) (.string ⟨x.name.toArray⟩) (.string ⟨x.op.toArray⟩) (.slice A1 x.kids.length c1)
 kids:KidsX (NoX (w.heap.size+1) cb wr.heap.size) wr A1 x
 rest:RdE l (.loop m x) p d r
 lo:k<p
 hi:p≤n
 lt:cb<wr.heap.size
structure LoopBad (b:Nat) (w:World) (cb:Nat) (A:Option Addr) (n c:Nat) (l:List Tok) (r:Rs) (wr:World) (j er:Nat):Prop where
 mid:MidO b w wr A n c l j
 box:Box5 wr cb (.int .i64 0) (.int .i64 0) (.string ⟨#[]⟩) (.string ⟨#[]⟩) (.slice none 0 0)
 res:r= .bad j er
 err:er=1∨er=8
def LoopR (b:Nat) (w:World) (cb:Nat) (A:Option Addr) (n c:Nat) (l:List Tok) (m k d:Nat) (r:Rs) (v:Value) (wr:World):Prop:=
 (∃ x p A1 c1,v= .int .i64 0∧LoopOk b w cb A n c l m k d r wr x p A1 c1)∨∃ j er,v= .int .i64 (er:Nat)∧LoopBad b w cb A n c l r wr j er
noncomputable def loopM (b n:Nat) (v:Value) (wr:World):Nat:=if intOf v=0 then n+1 - placeW b wr else 0
theorem LoopOk.low {b:Nat} {w:World} {cb:Nat} {A:Option Addr} {n c:Nat} {l:List Tok} {m k d:Nat} {r:Rs} {wr:World} {x:Ex} {p:Nat} {A1:Option Addr} {c1:Nat} (h:LoopOk b w cb A n c l m k d r wr x p A1 c1) (hlt:b<w.heap.size) {W:World} (hb:Below wr.heap.size wr W):LoopOk b w cb A n c l m k d r W x p A1 c1:=
 ⟨h.mid.low hlt hb,h.box.low hb,(h.kids.over fun q hq=>hb.block q hq.2.1).wide fun q hq=>⟨hq.1,by have:=hq.2.1;have:=hb.size;omega,hq.2.2⟩,h.rest,h.lo,h.hi,by have:=h.lt;have:=hb.size;omega⟩
theorem LoopOk.own {b:Nat} {w:World} {cb:Nat} {A:Option Addr} {n c:Nat} {l:List Tok} {m k d:Nat} {r:Rs} {wr:World} {x:Ex} {p:Nat} {A1:Option Addr} {c1:Nat} (_:LoopOk b w cb A n c l m k d r wr x p A1 c1) (hlt:b<w.heap.size):∀ q,NoX (w.heap.size+1) cb wr.heap.size q→q<wr.heap.size∧q≠b:=fun q hq=>⟨hq.2.1,by have:=hq.1;omega⟩
theorem MidO.put5 {b:Nat} {w W:World} {A:Option Addr} {n c:Nat} {l:List Tok} {k:Nat} (h:MidO b w W A n c l k) (hlt:b<w.heap.size) {q:Nat} (hq:w.heap.size<q) (v0 v1 v2 v3 v4:Value):MidO b w (put5 W q v0 v1 v2 v3 v4) A n c l k:=
 ⟨((((h.boxQ.other (a:=⟨q,0,none⟩) (Nat.ne_of_gt hq) _).other (a:=⟨q,1,none⟩) (Nat.ne_of_gt hq) _).other (a:=⟨q,2,none⟩) (Nat.ne_of_gt hq) _).other (a:=⟨q,3,none⟩) (Nat.ne_of_gt hq) _).other (a:=⟨q,4,none⟩) (Nat.ne_of_gt hq) _,
   grown_put5 h.grown (Nat.le_of_lt hq) _ _ _ _ _,h.rd.put5 (by omega) _ _ _ _ _,by rw[size_put5];exact h.size⟩
theorem loopM_ok {b n:Nat} {w:World} {A:Option Addr} {c:Nat} {l:List Tok} {p:Nat} (h:RdC b w A n c l p):loopM b n (.int .i64 0) w=n+1 - p:=by
 unfold loopM;rw[placeW_of h];exact if_pos rfl
theorem loopM_bad {b n:Nat} {w:World} {er:Nat} (h:er≠0):loopM b n (.int .i64 (er:Nat)) w=0:=by
 unfold loopM;exact if_neg (by show ¬ (er:Int)=0;omega)
theorem LoopOk.next {b:Nat} {w:World} {cb:Nat} {A:Option Addr} {n c:Nat} {l:List Tok} {m k d:Nat} {r:Rs} {wr:World} {x:Ex} {p:Nat} {A1:Option Addr} {c1:Nat} (h:LoopOk b w cb A n c l m k d r wr x p A1 c1) (hlt:b<w.heap.size) (hcb:w.heap.size<cb) {W:World} {x':Ex} {p':Nat} {A':Option Addr} {c':Nat}
  (hg:wr.grownBy W (some b)) (hk:KidsX (fun q=>NoX (w.heap.size+1) cb wr.heap.size q∨FrX wr.heap.size W.heap.size q) W A' x') (hr:RdC b W A n c l p') (hrest:RdE l (.loop m x') p' d r) (hp:p<p') (hn:p'≤n):
  LoopOk b w cb A n c l m k d r (put5 W cb (.int .i64 x'.kind) (.int .i64 x'.n) (.string ⟨x'.name.toArray⟩) (.string ⟨x'.op.toArray⟩) (.slice A' x'.kids.length c')) x' p' A' c':=by
 have hsz:=hg.size;have hcl:=h.lt;refine⟨(h.mid.more hlt hg hr).put5 hlt hcb _ _ _ _ _,(h.box.grown hg (by omega)).put _ _ _ _ _,?_,hrest,by have:=h.lo;omega,hn,by rw[size_put5];omega⟩;rw[size_put5]
 exact(hk.wide fun q hq=>by
  rcases hq with hq | hq
  ·exact⟨hq.1,by have:=hq.2.1;omega,hq.2.2⟩
  ·exact⟨by have:=hq.1;have:=h.mid.size;omega,hq.2,by have:=hq.1;omega⟩:KidsX (NoX (w.heap.size+1) cb W.heap.size) W A' x').put5 (fun hq=>hq.2.2 rfl) _ _ _ _ _
theorem LoopOk.fell {b:Nat} {w:World} {cb:Nat} {A:Option Addr} {n c:Nat} {l:List Tok} {m k d:Nat} {r:Rs} {wr:World} {x:Ex} {p:Nat} {A1:Option Addr} {c1:Nat} (h:LoopOk b w cb A n c l m k d r wr x p A1 c1) (hlt:b<w.heap.size) (hcb:w.heap.size<cb) {W:World} {j er:Nat}
  (hg:wr.grownBy W (some b)) (hr:RdC b W A n c l j) (hres:r= .bad j er) (he:er=1∨er=8):LoopBad b w cb A n c l r (put5 W cb (.int .i64 0) (.int .i64 0) (.string ⟨#[]⟩) (.string ⟨#[]⟩) (.slice none 0 0)) j er:=
 ⟨(h.mid.more hlt hg hr).put5 hlt hcb _ _ _ _ _,(h.box.grown hg (by omega)).put _ _ _ _ _,hres,he⟩
theorem row_ok (b:Nat) (w:World) (A:Option Addr) (n c:Nat) (l:List Tok) (m k d:Nat) (h:RdC b w A n c l k) (hf:FitL l) (hd:d≤64) (hm:1≤m) (x:Ex) (p:Nat) (r:Rs)
  (HRow:∀ m' p' d' r',k<p'→p'≤n→d'≤64→1≤m'→RdE l (.some m') p' d' r'→ConRow b A n c l m' p' d' r')
  (HOne:ConOne b A n c l k d (.ok x p)) (hp:k<p∧p≤n) (hr:RdE l (.loop m x) p d r):
  Calls Tryz.prog 131 #[.pointer (some ⟨b,0,none⟩),.int .i64 m,.int .i64 d] w (PostC b w A n c l r):=by
 have hlt:=h.lt;have hln:=h.row.1;have HM0:Hid (MidO b w (w.alloc zeroX) A n c l k):=Lib.hid (MidO.first h (Below.refl _ _));have K1:Hid (∀ w,RdC b w A n c l k→Calls Tryz.prog 153 #[.pointer (some ⟨b,0,none⟩),.int .i64 d] w (PostC b w A n c l (.ok x p))):=Lib.hid HOne;have HR:=Lib.hid HRow;have HF:=Lib.hid hf;have HRest:=Lib.hid hr;have HLN:=Lib.hid hln;have hmx:Hid (∀ i,strong (sg l i)≤6):=Lib.hid fun i=>strong_le _
 clear h HOne HRow hf hr hln;go_enter Tryz.func131,Tryz.ntmps131;go_wp2_with (go_at_call 153;go_must ((with_reducible refine(K1.out _ HM0.out.rd).mono ?_);rintro e w2 ⟨hg2,⟨A2,c2,rfl,hk2⟩,hr2⟩;have HM2:=Lib.hid (HM0.out.more hlt hg2 hr2);have HKD:=Lib.hid hk2;clear hg2 hr2 hk2));obtain⟨W2,hW2⟩:∃ W2,W2=w2.alloc (objX x A2 c2):=⟨_,rfl⟩
 have HL0:Hid (LoopOk b w w2.heap.size A n c l m k d r W2 x p A2 c2):=Lib.hid (by
  have hs:W2.heap.size=w2.heap.size+1:=by rw[hW2];exact size_allocX _ _
  have hs1:=size_allocX w zeroX;have g:=HKD.out;rw[hs1] at g;refine⟨by rw[hW2];exact HM2.out.low hlt (one_boxX _ _),by rw[hW2];exact Box5.new w2 _ _ _ _ _ _,?_,HRest.out,hp.1,hp.2,by omega⟩;rw[hs,hW2];exact(g.allocX (fun q hq=>hq.2) _).wide fun q hq=>⟨hq.1,by have:=hq.2;omega,by have:=hq.2;omega⟩)
 rw[←hW2];have HS2:=Lib.hid HM2.out.size;clear hW2
 go_loopw [9] (fun v wr=>LoopR b w w2.heap.size A n c l m k d r v wr) (fun v wr=>loopM b n v wr)
 case atStart=>exact .inl ⟨x,p,A2,c2,rfl,HL0.out⟩
 case round=>
  have HC:Hid (w.heap.size<w2.heap.size):=HS2
  rcases hrel with ⟨x1,p1,A1,c1,rfl,hl⟩ | ⟨j,er,rfl,hl⟩
  ·have HL:=Lib.hid hl
   have hpl:=hl.hi;obtain⟨S,hS⟩:∃ S:ByteArray,S=⟨(sg l p1).toArray⟩:=⟨_,rfl⟩;have KS:Hid (∀ w,RdC b w A n c l p1→Calls Tryz.prog 155 #[.pointer (some ⟨b,0,none⟩)] w fun e w'=>e= .returned (.string S)∧Below w.heap.size w w'):=Lib.hid fun w h=>by rw[hS];exact nextsign_any b w A n c l p1 h HF.out hpl
   have eS:S.data.toList=sg l p1:=by rw[hS]
   have KT:Hid (∀ w,Calls Tryz.prog 154 #[.string S] w fun e w'=>e= .returned (.int .i64 (strong (sg l p1)))∧w=w'):=Lib.hid fun w=>by rw[←eS];exact cstrong_any S w
   clear hS eS;obtain⟨st,hst⟩:∃ st,st=strong (sg l p1):=⟨_,rfl⟩;rw[←hst] at KT;have HST:=Lib.hid hst;have hrest:=hl.rest;clear hl hst
   cases hrest with
   | stop h1=>
     rw[←HST.out] at h1;have g1:decide ((m:Int)≤(st:Int))=false:=by simp;omega
     have g2:decide (m≤st)=false:=by simp;omega
     clear hp hpl hm hd;go_wp2_with (first | (go_at_call 155;go_must ((with_reducible refine(KS.out _ HL.out.mid.rd).mono ?_);rintro e w3 ⟨rfl,hb3⟩;have HL3:=Lib.hid (HL.out.low hlt hb3);clear hb3;obtain⟨d0,d1,d2,d3,d4,_⟩:=HL3.out.mid.boxQ;obtain⟨e0,e1,e2,e3,e4⟩:=HL3.out.mid.boxQ.freed;obtain⟨g0,g1,g2,g3,g4,_⟩:=HL3.out.box)) | (go_at_call 154;go_must ((with_reducible refine(KT.out _).mono ?_);rintro e w' ⟨rfl,rfl⟩)));obtain⟨W3,hW3⟩:∃ W3,W3=put5 w3 w.heap.size (.int .i64 x1.kind) (.int .i64 x1.n) (.string ⟨x1.name.toArray⟩) (.string ⟨x1.op.toArray⟩) (.slice A1 x1.kids.length c1):=⟨_,rfl⟩;have HE:EndQ b w.heap.size w W3 A n c l p1 (.int .i64 x1.kind) (.int .i64 x1.n) (.string ⟨x1.name.toArray⟩) (.string ⟨x1.op.toArray⟩) (.slice A1 x1.kids.length c1):=end_q hlt (Nat.le_refl _) HL3.out.mid.boxQ HL3.out.mid.grown HL3.out.mid.rd (by rw[hW3];exact Below.refl _ _)
     have hk3:KidsX (FrX w.heap.size W3.heap.size) W3 A1 x1:=by
      rw[hW3];exact(HL3.out.kids.put5 (fun hq=>by have:=hq.1;omega) _ _ _ _ _).wide fun q hq=>⟨by have:=hq.1;omega,by rw[size_put5];exact hq.2.1⟩
     unfold put5 at hW3;rw[←hW3];clear hW3 d0 d1 d2 d3 d4;obtain⟨d0,d1,d2,d3,d4,_⟩:=HE.box;exact bodyPost_ret (v:= .tuple #[.agg #[.int .i64 x1.kind,.int .i64 x1.n,.string ⟨x1.name.toArray⟩,.string ⟨x1.op.toArray⟩,.slice A1 x1.kids.length c1],.int .i64 0]) (by simp[results,Tryz.results131,go_sem,d0,d1,d2,d3,d4]) rfl ⟨HE.grown,⟨_,_,rfl,hk3⟩,HE.rd⟩
   | opDeep h1 h2=>
     rw[←HST.out] at h1;have q1:decide ((m:Int)≤(st:Int))=true:=by simp;omega
     have q2:decide (m≤st)=true:=by simp;omega
     have q3:(m:Int)≤st:=by omega
     have hd64:((d:Nat):Int)=64:=by omega
     obtain⟨er,her⟩:∃ er:Nat,er=8:=⟨_,rfl⟩;rw[show Rs.bad p1 8=Rs.bad p1 er by rw[her]] at HL ⊢;have KB:Hid (∀ W,LoopOk b w w2.heap.size A n c l m k d (.bad p1 er) W x1 p1 A1 c1→Calls Tryz.prog 156 #[.pointer (some ⟨b,0,none⟩),.agg #[.int .i64 x1.kind,.int .i64 x1.n,.string ⟨x1.name.toArray⟩,.string ⟨x1.op.toArray⟩,.slice A1 x1.kids.length c1],.int .i64 d] W (PostB b (NoX (w.heap.size+1) w2.heap.size W.heap.size) W A n c l (.bad p1 er))):=Lib.hid fun W hW=>by rw[her,hd64];exact behind_deep b _ W A n c l p1 hW.mid.rd HF.out hW.hi x1 A1 c1 hW.kids (hW.own hlt)
     have HER:=Lib.hid her;have HPL:=Lib.hid hpl;clear hp hpl hm hd h1 h2 her hd64;go_wp2_with (first | (go_at_call 155;go_must ((with_reducible refine(KS.out _ HL.out.mid.rd).mono ?_);rintro e w3 ⟨rfl,hb3⟩;have HL3:=Lib.hid (HL.out.low hlt hb3);clear hb3;obtain⟨g0,g1,g2,g3,g4,_⟩:=HL3.out.box)) | (go_at_call 154;go_must ((with_reducible refine(KT.out _).mono ?_);rintro e w' ⟨rfl,rfl⟩)) | (go_at_call 156;go_must ((with_reducible refine(KB.out _ HL3.out).mono ?_);rintro e w4 ⟨hg4,rfl,hr4⟩;have HG4:=Lib.hid hg4;have HR4:=Lib.hid hr4;have HBX:=Lib.hid (HL3.out.box.grown hg4 (by have:=HC.out;omega));obtain⟨d0,d1,d2,d3,d4,_⟩:=HBX.out;obtain⟨e0,e1,e2,e3,e4⟩:=HBX.out.freed;clear hg4 hr4)))
     go_roundw
     case rel=>exact .inr ⟨p1,er,rfl,HL3.out.fell hlt HC.out HG4.out HR4.out rfl (.inr HER.out)⟩
     case measure=>rw[loopM_bad (by have:=HER.out;omega),loopM_ok HL.out.mid.rd];have:=HPL.out;omega
   | @op _ _ _ _ y k2 _ h1 h2 h3 h4=>
     rw[←HST.out] at h1;have q1:decide ((m:Int)≤(st:Int))=true:=by simp;omega
     have q2:decide (m≤st)=true:=by simp;omega
     have q3:(m:Int)≤st:=by omega
     have hpos:(Md.some (strong (sg l p1)+1)).pos:=by show 1≤strong (sg l p1)+1;omega
     have hp1:p1<l.length:=strong_sg_lt hm (by rw[←HST.out];exact h1);have hwk:=h3.within hpos (by omega);have hk2:p1<k2∧k2≤n:=by have:=hwk.1;have:=hwk.2;have:=HLN.out;omega
     obtain⟨x',hx'⟩:∃ x',x'=exBin (sg l p1) x1 y:=⟨_,rfl⟩
     have KB:Hid (∀ W,LoopOk b w w2.heap.size A n c l m k d r W x1 p1 A1 c1→Calls Tryz.prog 156 #[.pointer (some ⟨b,0,none⟩),.agg #[.int .i64 x1.kind,.int .i64 x1.n,.string ⟨x1.name.toArray⟩,.string ⟨x1.op.toArray⟩,.slice A1 x1.kids.length c1],.int .i64 d] W (PostB b (NoX (w.heap.size+1) w2.heap.size W.heap.size) W A n c l (.ok x' k2))):=Lib.hid fun W hW=>by
      rw[hx'];exact behind_ok b _ W A n c l p1 d hW.mid.rd HF.out hW.hi h2 x1 A1 c1 hW.kids (hW.own hlt) y k2 (HR.out _ _ _ _ (by have:=hW.lo;omega) (by have:=HLN.out;omega) (by omega) (by omega) h3)
     have HX4:Hid (RdE l (.loop m x') k2 d r):=Lib.hid (by rw[hx'];exact h4);have HK2:=Lib.hid hk2;clear hp hpl hm hd h1 h2 h3 h4 hpos hp1 hwk hx' hk2;go_wp2_with (first | (go_at_call 155;go_must ((with_reducible refine(KS.out _ HL.out.mid.rd).mono ?_);rintro e w3 ⟨rfl,hb3⟩;have HL3:=Lib.hid (HL.out.low hlt hb3);clear hb3;obtain⟨g0,g1,g2,g3,g4,_⟩:=HL3.out.box)) | (go_at_call 154;go_must ((with_reducible refine(KT.out _).mono ?_);rintro e w' ⟨rfl,rfl⟩)) | (go_at_call 156;go_must ((with_reducible refine(KB.out _ HL3.out).mono ?_);rintro e w4 ⟨hg4,⟨A4,c4,rfl,hk4⟩,hr4⟩;have HG4:=Lib.hid hg4;have HR4:=Lib.hid hr4;have HK4:=Lib.hid hk4;have HBX:=Lib.hid (HL3.out.box.grown hg4 (by have:=HC.out;omega));obtain⟨d0,d1,d2,d3,d4,_⟩:=HBX.out;obtain⟨e0,e1,e2,e3,e4⟩:=HBX.out.freed;clear hg4 hr4 hk4)))
     go_roundw
     case rel=>exact .inl ⟨x',k2,A4,c4,rfl,HL3.out.next hlt HC.out HG4.out HK4.out HR4.out HX4.out HK2.out.1 HK2.out.2⟩
     case measure=>rw[loopM_ok (HL3.out.next hlt HC.out HG4.out HK4.out HR4.out HX4.out HK2.out.1 HK2.out.2).mid.rd,loopM_ok HL.out.mid.rd];have:=HK2.out;omega
   | @opBad _ _ _ _ j er h1 h2 h3=>
     rw[←HST.out] at h1;have q1:decide ((m:Int)≤(st:Int))=true:=by simp;omega
     have q2:decide (m≤st)=true:=by simp;omega
     have q3:(m:Int)≤st:=by omega
     have hpos:(Md.some (strong (sg l p1)+1)).pos:=by show 1≤strong (sg l p1)+1;omega
     have hp1:p1<l.length:=strong_sg_lt hm (by rw[←HST.out];exact h1);have hwk:=h3.within hpos (by omega)
     have KB:Hid (∀ W,LoopOk b w w2.heap.size A n c l m k d (.bad j er) W x1 p1 A1 c1→Calls Tryz.prog 156 #[.pointer (some ⟨b,0,none⟩),.agg #[.int .i64 x1.kind,.int .i64 x1.n,.string ⟨x1.name.toArray⟩,.string ⟨x1.op.toArray⟩,.slice A1 x1.kids.length c1],.int .i64 d] W (PostB b (NoX (w.heap.size+1) w2.heap.size W.heap.size) W A n c l (.bad j er))):=Lib.hid fun W hW=>
      behind_bad b _ W A n c l p1 d hW.mid.rd HF.out hW.hi h2 x1 A1 c1 hW.kids (hW.own hlt) j er (by rcases hwk.2.2 with e | e <;> omega) (HR.out _ _ _ _ (by have:=hW.lo;omega) (by have:=HLN.out;omega) (by omega) (by omega) h3)
     have HER:=Lib.hid hwk.2.2;have HPL:=Lib.hid hpl;clear hp hpl hm hd h1 h2 h3 hpos hp1 hwk;go_wp2_with (first | (go_at_call 155;go_must ((with_reducible refine(KS.out _ HL.out.mid.rd).mono ?_);rintro e w3 ⟨rfl,hb3⟩;have HL3:=Lib.hid (HL.out.low hlt hb3);clear hb3;obtain⟨g0,g1,g2,g3,g4,_⟩:=HL3.out.box)) | (go_at_call 154;go_must ((with_reducible refine(KT.out _).mono ?_);rintro e w' ⟨rfl,rfl⟩)) | (go_at_call 156;go_must ((with_reducible refine(KB.out _ HL3.out).mono ?_);rintro e w4 ⟨hg4,rfl,hr4⟩;have HG4:=Lib.hid hg4;have HR4:=Lib.hid hr4;have HBX:=Lib.hid (HL3.out.box.grown hg4 (by have:=HC.out;omega));obtain⟨d0,d1,d2,d3,d4,_⟩:=HBX.out;obtain⟨e0,e1,e2,e3,e4⟩:=HBX.out.freed;clear hg4 hr4)))
     go_roundw
     case rel=>exact .inr ⟨j,er,rfl,HL3.out.fell hlt HC.out HG4.out HR4.out rfl HER.out⟩
     case measure=>rw[loopM_bad (by rcases HER.out with e | e <;> omega),loopM_ok HL.out.mid.rd];have:=HPL.out;omega
  ·have HL:=Lib.hid hl
   have he:=hl.err;have q1:((er:Int)==0)=false:=by simp;omega
   have q2:(er==0)=false:=by simp;omega
   obtain rfl:=hl.res;obtain⟨d0,d1,d2,d3,d4,_⟩:=hl.mid.boxQ;obtain⟨e0,e1,e2,e3,e4⟩:=hl.mid.boxQ.freed;obtain⟨g0,g1,g2,g3,g4,_⟩:=hl.box;clear hp hm hd hl he;go_wp2;obtain⟨W3,hW3⟩:∃ W3,W3=put5 wr w.heap.size (.int .i64 0) (.int .i64 0) (.string ⟨#[]⟩) (.string ⟨#[]⟩) (.slice none 0 0):=⟨_,rfl⟩;have HE:EndQ b w.heap.size w W3 A n c l j (.int .i64 0) (.int .i64 0) (.string ⟨#[]⟩) (.string ⟨#[]⟩) (.slice none 0 0):=end_q hlt (Nat.le_refl _) HL.out.mid.boxQ HL.out.mid.grown HL.out.mid.rd (by rw[hW3];exact Below.refl _ _);unfold put5 at hW3;rw[←hW3];clear hW3 d0 d1 d2 d3 d4;obtain⟨d0,d1,d2,d3,d4,_⟩:=HE.box;exact bodyPost_ret (v:= .tuple #[.agg #[.int .i64 0,.int .i64 0,.string ⟨#[]⟩,.string ⟨#[]⟩,.slice none 0 0],.int .i64 er]) (by simp[results,Tryz.results131,go_sem,d0,d1,d2,d3,d4]) rfl ⟨HE.grown,rfl,HE.rd⟩
theorem row_bad (b:Nat) (w:World) (A:Option Addr) (n c:Nat) (l:List Tok) (m k d:Nat) (h:RdC b w A n c l k) (j er:Nat) (he:er≠0) (HOne:ConOne b A n c l k d (.bad j er)):
  Calls Tryz.prog 131 #[.pointer (some ⟨b,0,none⟩),.int .i64 m,.int .i64 d] w (PostC b w A n c l (.bad j er)):=by
 have hlt:=h.lt;have HM0:Hid (MidO b w (w.alloc zeroX) A n c l k):=Lib.hid (MidO.first h (Below.refl _ _));have K1:Hid (∀ w,RdC b w A n c l k→Calls Tryz.prog 153 #[.pointer (some ⟨b,0,none⟩),.int .i64 d] w (PostC b w A n c l (.bad j er))):=Lib.hid HOne;have q1:((er:Int)==0)=false:=by simp;omega
 have q2:(er==0)=false:=by simp;omega
 clear h HOne he;go_enter Tryz.func131,Tryz.ntmps131;go_wp2_with (go_at_call 153;go_must ((with_reducible refine(K1.out _ HM0.out.rd).mono ?_);rintro e w2 ⟨hg2,rfl,hr2⟩;have HM2:=Lib.hid ((HM0.out.more hlt hg2 hr2).low hlt (one_boxX _ zeroX));clear hg2 hr2));obtain⟨W2,hW2⟩:∃ W2,W2=w2.alloc zeroX:=⟨_,rfl⟩;have HB2:Hid (Box5 W2 w2.heap.size (.int .i64 0) (.int .i64 0) (.string ⟨#[]⟩) (.string ⟨#[]⟩) (.slice none 0 0)):=Lib.hid (by rw[hW2];exact Box5.new w2 _ _ _ _ _ _);rw[←hW2] at HM2 ⊢;clear hW2
 go_loopw [9] (fun v wr=>v= .int .i64 (er:Nat)∧wr=W2) (fun _ _=>0)
 case atStart=>exact⟨rfl,rfl⟩
 case round=>
  obtain⟨rfl,rfl⟩:=hrel;obtain⟨d0,d1,d2,d3,d4,_⟩:=HM2.out.boxQ;obtain⟨e0,e1,e2,e3,e4⟩:=HM2.out.boxQ.freed;obtain⟨g0,g1,g2,g3,g4,_⟩:=HB2.out;go_wp2;obtain⟨W3,hW3⟩:∃ W3,W3=put5 wr w.heap.size (.int .i64 0) (.int .i64 0) (.string ⟨#[]⟩) (.string ⟨#[]⟩) (.slice none 0 0):=⟨_,rfl⟩;have HE:EndQ b w.heap.size w W3 A n c l j (.int .i64 0) (.int .i64 0) (.string ⟨#[]⟩) (.string ⟨#[]⟩) (.slice none 0 0):=end_q hlt (Nat.le_refl _) HM2.out.boxQ HM2.out.grown HM2.out.rd (by rw[hW3];exact Below.refl _ _);unfold put5 at hW3;rw[←hW3];clear hW3 d0 d1 d2 d3 d4;obtain⟨d0,d1,d2,d3,d4,_⟩:=HE.box;exact bodyPost_ret (v:= .tuple #[.agg #[.int .i64 0,.int .i64 0,.string ⟨#[]⟩,.string ⟨#[]⟩,.slice none 0 0],.int .i64 er]) (by simp[results,Tryz.results131,go_sem,d0,d1,d2,d3,d4]) rfl ⟨HE.grown,rfl,HE.rd⟩
theorem RdE.goes {l:List Tok} {m:Md} {i d:Nat} {r:Rs} (h:RdE l m i d r):m.pos→i≤l.length→(match m with | .loop _ _=>False | _=>True)→∀ x j,r= .ok x j→i<j:=by
 induction h with
 | deep=>intro _ _ _ x j e;cases e
 | par h1 h2 h3 h4 ih=>
   intro _ hi _ x j e
   cases e
   have a1:=sg_lt (l:=l) (by rw[h1];decide);have:=(h3.within (Nat.le_refl 1) (by omega)).1;omega
 | parOpen=>intro _ _ _ x j e;cases e
 | parBad=>intro _ _ _ x j e;cases e
 | neg h1 h2 h3 ih=>
   intro _ hi _ x j e
   cases e
   have a1:=sg_lt (l:=l) (by rw[h1];decide);have:=(h3.within trivial (by omega)).1;omega
 | not h1 h2 h3 ih=>
   intro _ hi _ x j e
   cases e
   have a1:=sg_lt (l:=l) (by rw[h1];decide);have:=(h3.within trivial (by omega)).1;omega
 | unBad=>intro _ _ _ x j e;cases e
 | num=>intro _ _ _ x j e;cases e;omega
 | var=>intro _ _ _ x j e;cases e;omega
 | none=>intro _ _ _ x j e;cases e
 | some h1 h2 ih1 ih2=>
   intro hp hi _ x j e;have a:=ih1 trivial hi trivial _ _ rfl;have b:=(h2.within hp (h1.within trivial hi).2);rw[e] at b;have:=b.1;omega
 | someBad=>intro _ _ _ x j e;cases e
 | stop=>intro _ _ h;exact h.elim
 | opDeep=>intro _ _ h;exact h.elim
 | op=>intro _ _ h;exact h.elim
 | opBad=>intro _ _ h;exact h.elim
theorem nxt_kind {l:List Tok} {k:Nat} (h:∀ t,l[k]?=some t→t.kind≠2∧t.kind≠6):(nxt l k).kind≠2∧(nxt l k).kind≠6:=by
 unfold nxt
 cases hl:l[k]? with
 | none=>exact⟨by decide,by decide⟩
 | some t=>exact h t hl
theorem nxt_sign {l:List Tok} {k:Nat} (h:sg l k≠[]):(nxt l k).kind≠2∧(nxt l k).kind≠6:=by
 obtain⟨t,h1,h2,_⟩:=sg_at h;rw[nxt_at h1,h2];exact⟨by decide,by decide⟩
theorem read_all (b:Nat) (A:Option Addr) (n c:Nat) (l:List Tok) (hf:FitL l) (hn:n=l.length):∀ N k,n - k≤N→k≤n→
  (∀ d r,d≤64→RdE l .one k d r→ConOne b A n c l k d r)∧∀ m d r,d≤64→1≤m→RdE l (.some m) k d r→ConRow b A n c l m k d r:=by
 intro N
 induction N with
 | zero=>
   intro k hN hk;have hkn:k=n:=by omega
   have hs:sg l k=[]:=sg_past (by omega)
   have one:∀ d r,d≤64→RdE l .one k d r→ConOne b A n c l k d r:=by
    intro d r _ h w hw;have hnone:RdE l .one k d (.bad k 1):= .none (by rw[hs];simp[pre3]) (fun t ht=>by rw[List.getElem?_eq_none (by omega)] at ht;cases ht);obtain rfl:=h.det hnone;obtain⟨h2,h6⟩:=nxt_kind (l:=l) (k:=k) (fun t ht=>by rw[List.getElem?_eq_none (by omega)] at ht;cases ht);exact operand_none b w A n c l k d hw hf hk _ rfl h2 h6 (by rw[hs];simp[pre3])
   refine⟨one,fun m d r hd _ h=>?_⟩
   cases h with
   | some h1 _=>have:=(h1.within trivial (by omega)).1;have:=h1.goes trivial (by omega) trivial _ _ rfl;have:=(h1.within trivial (by omega)).2;omega
   | @someBad _ _ _ j e h1=>
     intro w hw;have he:=(h1.within trivial (by omega)).2.2;exact row_bad b w A n c l m k d hw j e (by rcases he with e | e <;> omega) (one d _ hd h1)
 | succ N ih=>
   intro k hN hk
   have one:∀ d r,d≤64→RdE l .one k d r→ConOne b A n c l k d r:=by
    intro d r hd h w hw;have hkb:k≤1000000:=by have:=hf.len;omega
    have hsd:∀ kd w,RdC b w A n c l k→Calls Tryz.prog 177 #[.pointer (some ⟨b,0,none⟩),.int .i64 kd,.int .i64 64] w (PostC b w A n c l (.bad k 8)):=fun kd w h=>signed_deep b w A n c l k kd h
    cases h with
    | deep h1 h2=>
      have hd64:((d:Nat):Int)=64:=by omega
      have hne:sg l k≠[]:=by rcases h1 with e | e | e <;> rw[e] <;> decide
      obtain⟨n2,n6⟩:=nxt_sign hne
      rcases h1 with e | e | e
      ·exact operand_signed b w A n c l k d hw hf hk _ rfl n2 n6 2 (.inl ⟨e,rfl⟩) _ (fun w hw=>by rw[hd64];exact hsd 2 w hw)
      ·exact operand_signed b w A n c l k d hw hf hk _ rfl n2 n6 3 (.inr ⟨e,rfl⟩) _ (fun w hw=>by rw[hd64];exact hsd 3 w hw)
      ·exact operand_par b w A n c l k d hw hf hk _ rfl n2 n6 e _ (fun w hw=>by rw[hd64];exact inner_deep b w A n c l k hw)
    | @par _ _ x j h1 h2 h3 h4=>
      have hne:sg l k≠[]:=by rw[h1];decide
      obtain⟨n2,n6⟩:=nxt_sign hne;have hk1:=sg_lt hne;have hj:=(h3.within (Nat.le_refl 1) (by omega)).2;exact operand_par b w A n c l k d hw hf hk _ rfl n2 n6 h1 _ (fun w hw=>inner_shut b w A n c l k d hw hf hkb h2 x j (by omega) h4 ((ih (k+1) (by omega) (by omega)).2 1 (d+1) _ (by omega) (Nat.le_refl 1) h3))
    | @parOpen _ _ x j h1 h2 h3 h4=>
      have hne:sg l k≠[]:=by rw[h1];decide
      obtain⟨n2,n6⟩:=nxt_sign hne;have hk1:=sg_lt hne;have hj:=(h3.within (Nat.le_refl 1) (by omega)).2;exact operand_par b w A n c l k d hw hf hk _ rfl n2 n6 h1 _ (fun w hw=>inner_open b w A n c l k d hw hf hkb h2 x j (by omega) h4 ((ih (k+1) (by omega) (by omega)).2 1 (d+1) _ (by omega) (Nat.le_refl 1) h3))
    | @parBad _ _ j e h1 h2 h3=>
      have hne:sg l k≠[]:=by rw[h1];decide
      obtain⟨n2,n6⟩:=nxt_sign hne;have hk1:=sg_lt hne;have he:=(h3.within (Nat.le_refl 1) (by omega)).2.2;exact operand_par b w A n c l k d hw hf hk _ rfl n2 n6 h1 _ (fun w hw=>inner_bad b w A n c l k d hw hkb h2 j e (by rcases he with e | e <;> omega) ((ih (k+1) (by omega) (by omega)).2 1 (d+1) _ (by omega) (Nat.le_refl 1) h3))
    | @neg _ _ x j h1 h2 h3=>
      have hne:sg l k≠[]:=by rw[h1];decide
      obtain⟨n2,n6⟩:=nxt_sign hne;have hk1:=sg_lt hne;exact operand_signed b w A n c l k d hw hf hk _ rfl n2 n6 2 (.inl ⟨h1,rfl⟩) _ (fun w hw=>signed_ok b w A n c l k d 2 hw hkb h2 x j ((ih (k+1) (by omega) (by omega)).1 (d+1) _ (by omega) h3))
    | @not _ _ x j h1 h2 h3=>
      have hne:sg l k≠[]:=by rw[h1];decide
      obtain⟨n2,n6⟩:=nxt_sign hne;have hk1:=sg_lt hne;exact operand_signed b w A n c l k d hw hf hk _ rfl n2 n6 3 (.inr ⟨h1,rfl⟩) _ (fun w hw=>signed_ok b w A n c l k d 3 hw hkb h2 x j ((ih (k+1) (by omega) (by omega)).1 (d+1) _ (by omega) h3))
    | @unBad _ _ j e h1 h2 h3=>
      have hne:sg l k≠[]:=by rcases h1 with e | e <;> rw[e] <;> decide
      obtain⟨n2,n6⟩:=nxt_sign hne;have hk1:=sg_lt hne;have he:=(h3.within trivial (by omega)).2.2
      rcases h1 with h1 | h1
      ·exact operand_signed b w A n c l k d hw hf hk _ rfl n2 n6 2 (.inl ⟨h1,rfl⟩) _ (fun w hw=>signed_bad b w A n c l k d 2 hw hkb h2 j e (by rcases he with e | e <;> omega) ((ih (k+1) (by omega) (by omega)).1 (d+1) _ (by omega) h3))
      ·exact operand_signed b w A n c l k d hw hf hk _ rfl n2 n6 3 (.inr ⟨h1,rfl⟩) _ (fun w hw=>signed_bad b w A n c l k d 3 hw hkb h2 j e (by rcases he with e | e <;> omega) ((ih (k+1) (by omega) (by omega)).1 (d+1) _ (by omega) h3))
    | num h1 h2=>exact operand_num b w A n c l k d hw hf hk _ (nxt_at h1) h2
    | var h1 h2=>exact operand_var b w A n c l k d hw hf hk _ (nxt_at h1) h2
    | none h1 h2=>
      obtain⟨n2,n6⟩:=nxt_kind h2;exact operand_none b w A n c l k d hw hf hk _ rfl n2 n6 h1
   refine⟨one,fun m d r hd hm h=>?_⟩
   cases h with
   | @some _ _ _ x j _ h1 h2=>
     intro w hw;have hj:=(h1.within trivial (by omega)).2;have hg:=h1.goes trivial (by omega) trivial _ _ rfl;exact row_ok b w A n c l m k d hw hf hd hm x j r (fun m' p' d' r' hp hpn hd' hm' h'=>(ih p' (by omega) hpn).2 m' d' r' hd' hm' h') (one d _ hd h1) ⟨hg,by omega⟩ h2
   | @someBad _ _ _ j e h1=>
     intro w hw;have he:=(h1.within trivial (by omega)).2.2;exact row_bad b w A n c l m k d hw j e (by rcases he with e | e <;> omega) (one d _ hd h1)
theorem rde_total (l:List Tok):∀ N k,l.length - k≤N→k≤l.length→(∀ d,∃ r,RdE l .one k d r)∧(∀ m d,1≤m→∃ r,RdE l (.some m) k d r)∧∀ m x d,1≤m→∃ r,RdE l (.loop m x) k d r:=by
 intro N
 induction N with
 | zero=>
   intro k hN hk;have hs:sg l k=[]:=sg_past (by omega);have one:∀ d,RdE l .one k d (.bad k 1):=fun d=> .none (by rw[hs];simp[pre3]) (fun t ht=>by rw[List.getElem?_eq_none (by omega)] at ht;cases ht)
   exact⟨fun d=>⟨_,one d⟩,fun m d _=>⟨_,.someBad (one d)⟩,fun m x d hm=>⟨_,.stop (by rw[hs,strong_nil];omega)⟩⟩
 | succ N ih=>
   intro k hN hk
   have loop:∀ m x d,1≤m→∃ r,RdE l (.loop m x) k d r:=by
    intro m x d hm;by_cases h1:m≤strong (sg l k)
    ·have hk1:=strong_sg_lt hm h1
     by_cases h2:d<64
     ·obtain⟨r,hr⟩:=(ih (k+1) (by omega) (by omega)).2.1 (strong (sg l k)+1) (d+1) (by omega)
      have hw:=hr.within (show (Md.some (strong (sg l k)+1)).pos by show 1≤strong (sg l k)+1;omega) (by omega)
      cases r with
      | bad j e=>exact⟨_,.opBad h1 h2 hr⟩
      | ok y j=>
        obtain⟨r2,hr2⟩:=(ih j (by have:=hw.1;omega) hw.2).2.2 m (exBin (sg l k) x y) d hm;exact⟨_,.op h1 h2 hr hr2⟩
     ·exact⟨_,.opDeep h1 (by omega)⟩
    ·exact⟨_,.stop (by omega)⟩
   have one:∀ d,∃ r,RdE l .one k d r:=by
    intro d;by_cases hp:pre3 (sg l k)
    ·have hne:sg l k≠[]:=by rcases hp with e | e | e <;> rw[e] <;> decide
     have hk1:=sg_lt hne;by_cases h2:d<64
     ·rcases hp with e | e | e
      ·obtain⟨r,hr⟩:=(ih (k+1) (by omega) (by omega)).1 (d+1)
       cases r with
       | bad j er=>exact⟨_,.unBad (.inl e) h2 hr⟩
       | ok y j=>exact⟨_,.neg e h2 hr⟩
      ·obtain⟨r,hr⟩:=(ih (k+1) (by omega) (by omega)).1 (d+1)
       cases r with
       | bad j er=>exact⟨_,.unBad (.inr e) h2 hr⟩
       | ok y j=>exact⟨_,.not e h2 hr⟩
      ·obtain⟨r,hr⟩:=(ih (k+1) (by omega) (by omega)).2.1 1 (d+1) (Nat.le_refl 1)
       cases r with
       | bad j er=>exact⟨_,.parBad e h2 hr⟩
       | ok y j=>
         by_cases h4:sg l j=[41]
         ·exact⟨_,.par e h2 hr h4⟩
         ·exact⟨_,.parOpen e h2 hr h4⟩
     ·exact⟨_,.deep hp (by omega)⟩
    ·by_cases h2:∃ t,l[k]?=some t∧t.kind=2
     ·obtain⟨t,h2,h3⟩:=h2
      exact⟨_,.num h2 h3⟩
     ·by_cases h6:∃ t,l[k]?=some t∧t.kind=6
      ·obtain⟨t,h2,h3⟩:=h6
       exact⟨_,.var h2 h3⟩
      ·exact⟨_,.none hp fun t ht=>⟨fun e=>h2 ⟨t,ht,e⟩,fun e=>h6 ⟨t,ht,e⟩⟩⟩
   refine⟨one,fun m d hm=>?_,loop⟩;obtain⟨r,hr⟩:=one d
   cases r with
   | bad j e=>exact⟨_,.someBad hr⟩
   | ok x j=>
     have hj:=(hr.within trivial hk);by_cases hjk:j=k
     ·subst hjk
      obtain⟨r2,hr2⟩:=loop m x d hm;exact⟨_,.some hr hr2⟩
     ·obtain⟨r2,hr2⟩:=(ih j (by have:=hj.1;omega) hj.2).2.2 m x d hm
      exact⟨_,.some hr hr2⟩
theorem read_some (l:List Tok) (k:Nat) (hk:k≤l.length):∃ r,RdE l (.some 1) k 0 r:=(rde_total l (l.length - k) k (Nat.le_refl _) hk).2.1 1 0 (Nat.le_refl 1)
def PostPX (w:World) (r:Rs) (e:Ending) (w':World):Prop:=Below w.heap.size w w'∧match r with
 | .ok x j=>∃ A c,e= .returned (.tuple #[.agg #[.int .i64 x.kind,.int .i64 x.n,.string ⟨x.name.toArray⟩,.string ⟨x.op.toArray⟩,.slice A x.kids.length c],.int .i64 j,.int .i64 0])∧KidsX (LtX w'.heap.size) w' A x
 | .bad j er=>e= .returned (.tuple #[.agg #[.int .i64 0,.int .i64 0,.string ⟨#[]⟩,.string ⟨#[]⟩,.slice none 0 0],.int .i64 j,.int .i64 er])
theorem rdc_new {w:World} {A:Option Addr} {n c:Nat} {l:List Tok} (k:Nat) (h:RdT w.heap.size w A n l) (hG:Given w) (o:Obj):
  RdC (w.heap.size+1) ((w.alloc o).alloc (.cells #[.slice A n c,.int .i64 k] 155)) A n c l k:=by
 have hs:(w.alloc o).heap.size=w.heap.size+1:=size_allocX _ _;have hb:Below w.heap.size w ((w.alloc o).alloc (.cells #[.slice A n c,.int .i64 k] 155)):=two_boxesX w _ _;refine⟨?_,?_,?_,(h.keep hb).up (by omega),fun w' hb'=>hG.below (hb.trans (hb'.mono (by omega)))⟩
 ·rw[←hs];exact new_at _ _ _ 0 _ rfl
 ·rw[←hs];exact new_at _ _ _ 1 _ rfl
 ·simp[go_sem]
def PostPF (w:World) (r:Rs) (e:Ending) (w':World):Prop:=Below w.heap.size w w'∧match r with
 | .ok x j=>∃ A c,e= .returned (.tuple #[.agg #[.int .i64 x.kind,.int .i64 x.n,.string ⟨x.name.toArray⟩,.string ⟨x.op.toArray⟩,.slice A x.kids.length c],.int .i64 j,.int .i64 0])∧KidsX (FrX w.heap.size w'.heap.size) w' A x
 | .bad j er=>e= .returned (.tuple #[.agg #[.int .i64 0,.int .i64 0,.string ⟨#[]⟩,.string ⟨#[]⟩,.slice none 0 0],.int .i64 j,.int .i64 er])
structure ParBox (w W:World) (cb:Nat) (A:Option Addr) (n c:Nat) (l:List Tok) (j:Nat) (x:Ex) (A2:Option Addr) (c2:Nat):Prop where
 boxQ:Box5 W w.heap.size (.int .i64 0) (.int .i64 0) (.string ⟨#[]⟩) (.string ⟨#[]⟩) (.slice none 0 0)
 box:Box5 W cb (.int .i64 x.kind) (.int .i64 x.n) (.string ⟨x.name.toArray⟩) (.string ⟨x.op.toArray⟩) (.slice A2 x.kids.length c2)
 rd:RdC (w.heap.size+1) W A n c l j
 below:Below w.heap.size w W
 kids:KidsX (FrX (w.heap.size+2) W.heap.size) W A2 x
theorem parse_box {w w1 w2:World} {o:Obj} {A:Option Addr} {n c:Nat} {l:List Tok} {j:Nat} {x:Ex} {A2:Option Addr} {c2:Nat} (h1:w1=(w.alloc zeroX).alloc o) (hg:w1.grownBy w2 (some (w.heap.size+1))) (hr:RdC (w.heap.size+1) w2 A n c l j)
  (hk:KidsX (FrX w1.heap.size w2.heap.size) w2 A2 x):ParBox w (w2.alloc (objX x A2 c2)) w2.heap.size A n c l j x A2 c2:=by
 have hs1:w1.heap.size=w.heap.size+2:=by rw[h1,size_allocX,size_allocX]
 have hs:=size_allocX w2 (objX x A2 c2);have hsz:=hg.size;have hb1:Below w.heap.size w w1:=by rw[h1];exact two_boxesX w _ _
 have hq:Box5 w1 w.heap.size (.int .i64 0) (.int .i64 0) (.string ⟨#[]⟩) (.string ⟨#[]⟩) (.slice none 0 0):=by rw[h1];exact(Box5.new w _ _ _ _ _ _).low (one_boxX _ _)
 rw[hs1] at hk;exact⟨(hq.grown hg (by omega)).low (one_boxX _ _),Box5.new w2 _ _ _ _ _ _,hr.box _,(hb1.trans (below_of_grown hg (by omega) (by omega))).trans ((one_boxX _ _).mono (by omega)),(hk.allocX (fun q hq=>hq.2) _).to (Nat.le_refl _) (by omega)⟩
theorem parseF_any (A:Option Addr) (n c:Nat) (l:List Tok) (k:Nat) (w:World) (h:RdT w.heap.size w A n l) (hf:FitL l) (hG:Given w) (hk:k≤l.length) (r:Rs) (hr:RdE l (.some 1) k 0 r):
  Calls Tryz.prog 101 #[.slice A n c,.int .i64 k] w (PostPF w r):=by
 have hn:=h.1;have HR0:Hid (∀ o,RdC (w.heap.size+1) ((w.alloc o).alloc (.cells #[.slice A n c,.int .i64 k] 155)) A n c l k):=Lib.hid fun o=>rdc_new k h hG o
 have HK:=(read_all (w.heap.size+1) A n c l hf hn (n - k) k (Nat.le_refl _) (by omega)).2 1 0 r (by omega) (Nat.le_refl 1) hr;have q1:¬ (k:Int)<0:=by omega
 have q2:¬ (n:Int)<k:=by omega
 cases r with
 | ok x j=>
   have K:Hid (∀ w',RdC (w.heap.size+1) w' A n c l k→Calls Tryz.prog 131 #[.pointer (some ⟨w.heap.size+1,0,none⟩),.int .i64 1,.int .i64 0] w' (PostC (w.heap.size+1) w' A n c l (.ok x j))):=Lib.hid HK;clear HK h hf hG hk hr hn;go_enter Tryz.func101,Tryz.ntmps101;go_wp2_with (go_at_call 131;go_must ((with_reducible refine(K.out _ (HR0.out _)).mono ?_);rintro e w2 ⟨hg2,⟨A2,c2,rfl,hk2⟩,hr2⟩;have HQ2:=Lib.hid (parse_box (c2:=c2) (by rfl) hg2 hr2 hk2);clear hg2 hr2 hk2));obtain⟨W2,hW2⟩:∃ W2,W2=w2.alloc (objX x A2 c2):=⟨_,rfl⟩;have HQ:Hid (ParBox w W2 w2.heap.size A n c l j x A2 c2):=Lib.hid (by rw[hW2];exact HQ2.out);rw[←hW2];clear hW2 HQ2;obtain⟨c0,c1,f1,_,_⟩:=HQ.out.rd;obtain⟨d0,d1,d2,d3,d4,_⟩:=HQ.out.boxQ;obtain⟨e0,e1,e2,e3,e4⟩:=HQ.out.boxQ.freed;obtain⟨g0,g1,g2,g3,g4,_⟩:=HQ.out.box
   go_region
   go_wp2;obtain⟨W3,hW3⟩:∃ W3,W3=put5 W2 w.heap.size (.int .i64 x.kind) (.int .i64 x.n) (.string ⟨x.name.toArray⟩) (.string ⟨x.op.toArray⟩) (.slice A2 x.kids.length c2):=⟨_,rfl⟩;have hbx:Box5 W3 w.heap.size (.int .i64 x.kind) (.int .i64 x.n) (.string ⟨x.name.toArray⟩) (.string ⟨x.op.toArray⟩) (.slice A2 x.kids.length c2):=by rw[hW3];exact HQ.out.boxQ.put _ _ _ _ _
   have hbl:Below w.heap.size w W3.drew:=by
    rw[hW3];exact(((((HQ.out.below.setCell (Nat.le_refl _) _).setCell (Nat.le_refl _) _).setCell (Nat.le_refl _) _).setCell (Nat.le_refl _) _).setCell (Nat.le_refl _) _).drew
   have hkd:KidsX (FrX w.heap.size W3.drew.heap.size) W3.drew A2 x:=by
    have hs3:W3.drew.heap.size=W2.heap.size:=by show W3.heap.size=_;rw[hW3,size_put5]
    rw[hs3];exact((HQ.out.kids.put5 (c:=w.heap.size) (fun hq=>by have:=hq.1;omega) (.int .i64 x.kind) (.int .i64 x.n) (.string ⟨x.name.toArray⟩) (.string ⟨x.op.toArray⟩) (.slice A2 x.kids.length c2)).over (w':=W3.drew) (fun _ _=>by rw[hW3];rfl)).wide fun q hq=>⟨by have:=hq.1;omega,hq.2⟩
   unfold put5 at hW3;rw[←hW3];clear hW3 d0 d1 d2 d3 d4;obtain⟨d0,d1,d2,d3,d4,_⟩:=hbx;exact bodyPost_ret (v:= .tuple #[.agg #[.int .i64 x.kind,.int .i64 x.n,.string ⟨x.name.toArray⟩,.string ⟨x.op.toArray⟩,.slice A2 x.kids.length c2],.int .i64 j,.int .i64 0]) (by simp[results,Tryz.results101,go_sem,d0,d1,d2,d3,d4]) rfl ⟨hbl,A2,c2,rfl,hkd⟩
 | bad j er=>
   have K:Hid (∀ w',RdC (w.heap.size+1) w' A n c l k→Calls Tryz.prog 131 #[.pointer (some ⟨w.heap.size+1,0,none⟩),.int .i64 1,.int .i64 0] w' (PostC (w.heap.size+1) w' A n c l (.bad j er))):=Lib.hid HK;have he:=(hr.within (Nat.le_refl 1) hk).2.2;have q3:((er:Int) != 0)=true:=by simp;omega
   have q4:(er != 0)=true:=by simp;omega
   clear HK h hf hG hk hr hn he;go_enter Tryz.func101,Tryz.ntmps101;go_wp2_with (go_at_call 131;go_must ((with_reducible refine(K.out _ (HR0.out _)).mono ?_);rintro e w2 ⟨hg2,rfl,hr2⟩;have HQ2:=Lib.hid (parse_box (x:=exNone) (A2:=none) (c2:=0) (by rfl) hg2 hr2 (KidsX.leaf _ _ _ _ _ _ _));clear hg2 hr2));obtain⟨W2,hW2⟩:∃ W2,W2=w2.alloc zeroX:=⟨_,rfl⟩;have HQ:Hid (ParBox w W2 w2.heap.size A n c l j exNone none 0):=Lib.hid (by rw[hW2];exact HQ2.out);rw[←hW2];clear hW2 HQ2;obtain⟨c0,c1,f1,_,_⟩:=HQ.out.rd;obtain⟨d0,d1,d2,d3,d4,_⟩:=HQ.out.boxQ;obtain⟨e0,e1,e2,e3,e4⟩:=HQ.out.boxQ.freed
   go_region
   go_wp2;obtain⟨W3,hW3⟩:∃ W3,W3=put5 W2 w.heap.size (.int .i64 0) (.int .i64 0) (.string ⟨#[]⟩) (.string ⟨#[]⟩) (.slice none 0 0):=⟨_,rfl⟩;have hbx:Box5 W3 w.heap.size (.int .i64 0) (.int .i64 0) (.string ⟨#[]⟩) (.string ⟨#[]⟩) (.slice none 0 0):=by rw[hW3];exact HQ.out.boxQ.put _ _ _ _ _
   have hbl:Below w.heap.size w W3.drew:=by
    rw[hW3];exact(((((HQ.out.below.setCell (Nat.le_refl _) _).setCell (Nat.le_refl _) _).setCell (Nat.le_refl _) _).setCell (Nat.le_refl _) _).setCell (Nat.le_refl _) _).drew
   unfold put5 at hW3;rw[←hW3];clear hW3 d0 d1 d2 d3 d4;obtain⟨d0,d1,d2,d3,d4,_⟩:=hbx;exact bodyPost_ret (v:= .tuple #[.agg #[.int .i64 0,.int .i64 0,.string ⟨#[]⟩,.string ⟨#[]⟩,.slice none 0 0],.int .i64 j,.int .i64 er]) (by simp[results,Tryz.results101,go_sem,d0,d1,d2,d3,d4]) rfl ⟨hbl,rfl⟩
theorem ne_list {X:ByteArray} {b:Bool} (h:(X.toList==[])=b):(X.toList != [])= !b:=by rw[bne,h]
theorem emp_list (X:ByteArray):X.toList.isEmpty=(X.toList==[]):=by cases X.toList <;> rfl
theorem told_any9 (r:Ex) (A:Option Addr) (c:Nat) (w:World) (hnm:r.name.length≤1000000):
  Calls Tryz.prog 137 #[valX r A c] w fun e w'=>e= .returned (.bool (shapeX r.kind r.n r.name r.op r.kids.length))∧Below w.heap.size w w':=by
 obtain⟨k,n,nm,op,ks⟩:=r;simp only[valX,Ex.kind,Ex.n,Ex.name,Ex.op,Ex.kids] at hnm ⊢;obtain⟨v,hv⟩:∃ v,v=shapeX k n nm op ks.length:=⟨_,rfl⟩;rw[←hv];unfold shapeX at hv;obtain⟨X,rfl,eX⟩:=ba_of nm;obtain⟨Y,rfl,eY⟩:=ba_of op;rw[eX,eY]
 have hXs:X.size≤4611686018427387904:=by
  have:X.toList.length=X.size:=by rw[toList_data];exact len_data X
  omega
 have KN:Hid (∀ w,Calls Tryz.prog 99 #[.string X] w fun e w'=>e= .returned (.bool (isName X.toList))∧w=w'):=Lib.hid fun w=>by rw[toList_data];exact name_any X hXs w
 have KS:Hid (∀ w,Calls Tryz.prog 154 #[.string Y] w fun e w'=>e= .returned (.int .i64 (strong Y.toList))∧w=w'):=Lib.hid fun w=>by rw[toList_data];exact cstrong_any Y w
 obtain⟨b1,hb1⟩:∃ b,b=isName X.toList:=⟨_,rfl⟩;obtain⟨b2,hb2⟩:∃ b,b=strong Y.toList:=⟨_,rfl⟩;rw[←hb1] at KN hv;rw[←hb2] at KS hv;clear hb1 hb2 eX eY hXs hnm;obtain⟨m,hm⟩:∃ m,m=ks.length:=⟨_,rfl⟩;rw[←hm] at hv ⊢;clear hm;obtain⟨x,hx⟩:∃ x,(X.toList==[])=x:=⟨_,rfl⟩;obtain⟨y,hy⟩:∃ y,(Y.toList==[])=y:=⟨_,rfl⟩;rw[emp_list,emp_list,hx,hy] at hv;have hx':=ne_list hx;have hy':=ne_list hy;by_cases k0:k=0
 ·subst k0
  by_cases hn:0≤n
  ·have n1:decide ((0:Int)≤n)=true:=by simpa using hn
   by_cases hm0:m=0
   ·subst hm0
    cases x <;> cases y
    all_goals
     simp[hn] at hv;subst hv;go_enter Tryz.func137,Tryz.ntmps137;go_wp2_with (first | (go_at_call 99;((with_reducible refine(KN.out _).mono ?_));rintro e w1 ⟨rfl,rfl⟩) | (go_at_call 154;((with_reducible refine(KS.out _).mono ?_));rintro e w1 ⟨rfl,rfl⟩));go_ret;exact⟨rfl,one_boxX _ _⟩
   ·have m1:((m:Int)==0)=false:=by simp;omega
    have m2:(m==0)=false:=by simp;omega
    cases x <;> cases y
    all_goals
     simp[hn,m2] at hv;subst hv;go_enter Tryz.func137,Tryz.ntmps137;go_wp2_with (first | (go_at_call 99;((with_reducible refine(KN.out _).mono ?_));rintro e w1 ⟨rfl,rfl⟩) | (go_at_call 154;((with_reducible refine(KS.out _).mono ?_));rintro e w1 ⟨rfl,rfl⟩));go_ret;exact⟨rfl,one_boxX _ _⟩
  ·have n1:decide ((0:Int)≤n)=false:=by simpa using hn
   by_cases hm0:m=0
   ·subst hm0
    cases x <;> cases y
    all_goals
     simp[hn] at hv;subst hv;go_enter Tryz.func137,Tryz.ntmps137;go_wp2_with (first | (go_at_call 99;((with_reducible refine(KN.out _).mono ?_));rintro e w1 ⟨rfl,rfl⟩) | (go_at_call 154;((with_reducible refine(KS.out _).mono ?_));rintro e w1 ⟨rfl,rfl⟩));go_ret;exact⟨rfl,one_boxX _ _⟩
   ·have m1:((m:Int)==0)=false:=by simp;omega
    have m2:(m==0)=false:=by simp;omega
    cases x <;> cases y
    all_goals
     simp[hn,m2] at hv;subst hv;go_enter Tryz.func137,Tryz.ntmps137;go_wp2_with (first | (go_at_call 99;((with_reducible refine(KN.out _).mono ?_));rintro e w1 ⟨rfl,rfl⟩) | (go_at_call 154;((with_reducible refine(KS.out _).mono ?_));rintro e w1 ⟨rfl,rfl⟩));go_ret;exact⟨rfl,one_boxX _ _⟩
 by_cases k1:k=1
 ·subst k1
  by_cases hn:n=0
  ·subst hn
   by_cases hm0:m=0
   ·subst hm0
    cases x <;> cases y <;> cases b1
    all_goals
     simp[] at hv;subst hv;go_enter Tryz.func137,Tryz.ntmps137;go_wp2_with (first | (go_at_call 99;((with_reducible refine(KN.out _).mono ?_));rintro e w1 ⟨rfl,rfl⟩) | (go_at_call 154;((with_reducible refine(KS.out _).mono ?_));rintro e w1 ⟨rfl,rfl⟩));go_ret;exact⟨rfl,one_boxX _ _⟩
   ·have m1:((m:Int)==0)=false:=by simp;omega
    have m2:(m==0)=false:=by simp;omega
    cases x <;> cases y <;> cases b1
    all_goals
     simp[m2] at hv;subst hv;go_enter Tryz.func137,Tryz.ntmps137;go_wp2_with (first | (go_at_call 99;((with_reducible refine(KN.out _).mono ?_));rintro e w1 ⟨rfl,rfl⟩) | (go_at_call 154;((with_reducible refine(KS.out _).mono ?_));rintro e w1 ⟨rfl,rfl⟩));go_ret;exact⟨rfl,one_boxX _ _⟩
  ·have n1:(n != 0)=true:=by simpa using hn
   by_cases hm0:m=0
   ·subst hm0
    cases x <;> cases y <;> cases b1
    all_goals
     simp[hn] at hv;subst hv;go_enter Tryz.func137,Tryz.ntmps137;go_wp2_with (first | (go_at_call 99;((with_reducible refine(KN.out _).mono ?_));rintro e w1 ⟨rfl,rfl⟩) | (go_at_call 154;((with_reducible refine(KS.out _).mono ?_));rintro e w1 ⟨rfl,rfl⟩));go_ret;exact⟨rfl,one_boxX _ _⟩
   ·have m1:((m:Int)==0)=false:=by simp;omega
    have m2:(m==0)=false:=by simp;omega
    cases x <;> cases y <;> cases b1
    all_goals
     simp[hn,m2] at hv;subst hv;go_enter Tryz.func137,Tryz.ntmps137;go_wp2_with (first | (go_at_call 99;((with_reducible refine(KN.out _).mono ?_));rintro e w1 ⟨rfl,rfl⟩) | (go_at_call 154;((with_reducible refine(KS.out _).mono ?_));rintro e w1 ⟨rfl,rfl⟩));go_ret;exact⟨rfl,one_boxX _ _⟩
 by_cases k2:k=2
 ·subst k2
  by_cases hn:n=0
  ·subst hn
   by_cases hm0:m=1
   ·subst hm0
    cases x <;> cases y
    all_goals
     simp[] at hv;subst hv;go_enter Tryz.func137,Tryz.ntmps137;go_wp2_with (first | (go_at_call 99;((with_reducible refine(KN.out _).mono ?_));rintro e w1 ⟨rfl,rfl⟩) | (go_at_call 154;((with_reducible refine(KS.out _).mono ?_));rintro e w1 ⟨rfl,rfl⟩));go_ret;exact⟨rfl,one_boxX _ _⟩
   ·have m1:((m:Int)==1)=false:=by simp;omega
    have m2:(m==1)=false:=by simp;omega
    cases x <;> cases y
    all_goals
     simp[m2] at hv;subst hv;go_enter Tryz.func137,Tryz.ntmps137;go_wp2_with (first | (go_at_call 99;((with_reducible refine(KN.out _).mono ?_));rintro e w1 ⟨rfl,rfl⟩) | (go_at_call 154;((with_reducible refine(KS.out _).mono ?_));rintro e w1 ⟨rfl,rfl⟩));go_ret;exact⟨rfl,one_boxX _ _⟩
  ·have n1:(n != 0)=true:=by simpa using hn
   by_cases hm0:m=1
   ·subst hm0
    cases x <;> cases y
    all_goals
     simp[hn] at hv;subst hv;go_enter Tryz.func137,Tryz.ntmps137;go_wp2_with (first | (go_at_call 99;((with_reducible refine(KN.out _).mono ?_));rintro e w1 ⟨rfl,rfl⟩) | (go_at_call 154;((with_reducible refine(KS.out _).mono ?_));rintro e w1 ⟨rfl,rfl⟩));go_ret;exact⟨rfl,one_boxX _ _⟩
   ·have m1:((m:Int)==1)=false:=by simp;omega
    have m2:(m==1)=false:=by simp;omega
    cases x <;> cases y
    all_goals
     simp[hn,m2] at hv;subst hv;go_enter Tryz.func137,Tryz.ntmps137;go_wp2_with (first | (go_at_call 99;((with_reducible refine(KN.out _).mono ?_));rintro e w1 ⟨rfl,rfl⟩) | (go_at_call 154;((with_reducible refine(KS.out _).mono ?_));rintro e w1 ⟨rfl,rfl⟩));go_ret;exact⟨rfl,one_boxX _ _⟩
 by_cases k3:k=3
 ·subst k3
  by_cases hn:n=0
  ·subst hn
   by_cases hm0:m=1
   ·subst hm0
    cases x <;> cases y
    all_goals
     simp[] at hv;subst hv;go_enter Tryz.func137,Tryz.ntmps137;go_wp2_with (first | (go_at_call 99;((with_reducible refine(KN.out _).mono ?_));rintro e w1 ⟨rfl,rfl⟩) | (go_at_call 154;((with_reducible refine(KS.out _).mono ?_));rintro e w1 ⟨rfl,rfl⟩));go_ret;exact⟨rfl,one_boxX _ _⟩
   ·have m1:((m:Int)==1)=false:=by simp;omega
    have m2:(m==1)=false:=by simp;omega
    cases x <;> cases y
    all_goals
     simp[m2] at hv;subst hv;go_enter Tryz.func137,Tryz.ntmps137;go_wp2_with (first | (go_at_call 99;((with_reducible refine(KN.out _).mono ?_));rintro e w1 ⟨rfl,rfl⟩) | (go_at_call 154;((with_reducible refine(KS.out _).mono ?_));rintro e w1 ⟨rfl,rfl⟩));go_ret;exact⟨rfl,one_boxX _ _⟩
  ·have n1:(n != 0)=true:=by simpa using hn
   by_cases hm0:m=1
   ·subst hm0
    cases x <;> cases y
    all_goals
     simp[hn] at hv;subst hv;go_enter Tryz.func137,Tryz.ntmps137;go_wp2_with (first | (go_at_call 99;((with_reducible refine(KN.out _).mono ?_));rintro e w1 ⟨rfl,rfl⟩) | (go_at_call 154;((with_reducible refine(KS.out _).mono ?_));rintro e w1 ⟨rfl,rfl⟩));go_ret;exact⟨rfl,one_boxX _ _⟩
   ·have m1:((m:Int)==1)=false:=by simp;omega
    have m2:(m==1)=false:=by simp;omega
    cases x <;> cases y
    all_goals
     simp[hn,m2] at hv;subst hv;go_enter Tryz.func137,Tryz.ntmps137;go_wp2_with (first | (go_at_call 99;((with_reducible refine(KN.out _).mono ?_));rintro e w1 ⟨rfl,rfl⟩) | (go_at_call 154;((with_reducible refine(KS.out _).mono ?_));rintro e w1 ⟨rfl,rfl⟩));go_ret;exact⟨rfl,one_boxX _ _⟩
 by_cases k4:k=4
 ·subst k4
  by_cases hn:n=0
  ·subst hn
   by_cases hm0:m=2
   ·subst hm0
    by_cases hb:b2=0
    ·subst hb
     cases x <;> cases y
     all_goals
      simp[] at hv;subst hv;go_enter Tryz.func137,Tryz.ntmps137;go_wp2_with (first | (go_at_call 99;((with_reducible refine(KN.out _).mono ?_));rintro e w1 ⟨rfl,rfl⟩) | (go_at_call 154;((with_reducible refine(KS.out _).mono ?_));rintro e w1 ⟨rfl,rfl⟩));go_ret;exact⟨rfl,one_boxX _ _⟩
    ·have b3:((b2:Int) != 0)=true:=by simp;omega
     have b4:(b2 != 0)=true:=by simp;omega
     cases x <;> cases y
     all_goals
      simp[b4] at hv;subst hv;go_enter Tryz.func137,Tryz.ntmps137;go_wp2_with (first | (go_at_call 99;((with_reducible refine(KN.out _).mono ?_));rintro e w1 ⟨rfl,rfl⟩) | (go_at_call 154;((with_reducible refine(KS.out _).mono ?_));rintro e w1 ⟨rfl,rfl⟩));go_ret;exact⟨rfl,one_boxX _ _⟩
   ·have m1:((m:Int)==2)=false:=by simp;omega
    have m2:(m==2)=false:=by simp;omega
    by_cases hb:b2=0
    ·subst hb
     cases x <;> cases y
     all_goals
      simp[m2] at hv;subst hv;go_enter Tryz.func137,Tryz.ntmps137;go_wp2_with (first | (go_at_call 99;((with_reducible refine(KN.out _).mono ?_));rintro e w1 ⟨rfl,rfl⟩) | (go_at_call 154;((with_reducible refine(KS.out _).mono ?_));rintro e w1 ⟨rfl,rfl⟩));go_ret;exact⟨rfl,one_boxX _ _⟩
    ·have b3:((b2:Int) != 0)=true:=by simp;omega
     have b4:(b2 != 0)=true:=by simp;omega
     cases x <;> cases y
     all_goals
      simp[m2] at hv;subst hv;go_enter Tryz.func137,Tryz.ntmps137;go_wp2_with (first | (go_at_call 99;((with_reducible refine(KN.out _).mono ?_));rintro e w1 ⟨rfl,rfl⟩) | (go_at_call 154;((with_reducible refine(KS.out _).mono ?_));rintro e w1 ⟨rfl,rfl⟩));go_ret;exact⟨rfl,one_boxX _ _⟩
  ·have n1:(n != 0)=true:=by simpa using hn
   by_cases hm0:m=2
   ·subst hm0
    by_cases hb:b2=0
    ·subst hb
     cases x <;> cases y
     all_goals
      simp[hn] at hv;subst hv;go_enter Tryz.func137,Tryz.ntmps137;go_wp2_with (first | (go_at_call 99;((with_reducible refine(KN.out _).mono ?_));rintro e w1 ⟨rfl,rfl⟩) | (go_at_call 154;((with_reducible refine(KS.out _).mono ?_));rintro e w1 ⟨rfl,rfl⟩));go_ret;exact⟨rfl,one_boxX _ _⟩
    ·have b3:((b2:Int) != 0)=true:=by simp;omega
     have b4:(b2 != 0)=true:=by simp;omega
     cases x <;> cases y
     all_goals
      simp[hn] at hv;subst hv;go_enter Tryz.func137,Tryz.ntmps137;go_wp2_with (first | (go_at_call 99;((with_reducible refine(KN.out _).mono ?_));rintro e w1 ⟨rfl,rfl⟩) | (go_at_call 154;((with_reducible refine(KS.out _).mono ?_));rintro e w1 ⟨rfl,rfl⟩));go_ret;exact⟨rfl,one_boxX _ _⟩
   ·have m1:((m:Int)==2)=false:=by simp;omega
    have m2:(m==2)=false:=by simp;omega
    by_cases hb:b2=0
    ·subst hb
     cases x <;> cases y
     all_goals
      simp[hn,m2] at hv;subst hv;go_enter Tryz.func137,Tryz.ntmps137;go_wp2_with (first | (go_at_call 99;((with_reducible refine(KN.out _).mono ?_));rintro e w1 ⟨rfl,rfl⟩) | (go_at_call 154;((with_reducible refine(KS.out _).mono ?_));rintro e w1 ⟨rfl,rfl⟩));go_ret;exact⟨rfl,one_boxX _ _⟩
    ·have b3:((b2:Int) != 0)=true:=by simp;omega
     have b4:(b2 != 0)=true:=by simp;omega
     cases x <;> cases y
     all_goals
      simp[hn,m2] at hv;subst hv;go_enter Tryz.func137,Tryz.ntmps137;go_wp2_with (first | (go_at_call 99;((with_reducible refine(KN.out _).mono ?_));rintro e w1 ⟨rfl,rfl⟩) | (go_at_call 154;((with_reducible refine(KS.out _).mono ?_));rintro e w1 ⟨rfl,rfl⟩));go_ret;exact⟨rfl,one_boxX _ _⟩
 have q0:(k==0)=false:=by simpa using k0
 have q1:(k==1)=false:=by simpa using k1
 have q2:(k==2)=false:=by simpa using k2
 have q3:(k==3)=false:=by simpa using k3
 have q4:(k==4)=false:=by simpa using k4
 have r0:(k != 0)=true:=by simpa using k0
 have r1:(k != 1)=true:=by simpa using k1
 have r4:(k != 4)=true:=by simpa using k4
 simp[k0,k1,k2,k3,k4] at hv;subst hv;clear k0 k1 k2 k3 k4;by_cases hn:n=0
 ·subst hn
  cases x <;> cases y
  all_goals
   go_enter Tryz.func137,Tryz.ntmps137;go_wp2_with (first | (go_at_call 99;((with_reducible refine(KN.out _).mono ?_));rintro e w1 ⟨rfl,rfl⟩) | (go_at_call 154;((with_reducible refine(KS.out _).mono ?_));rintro e w1 ⟨rfl,rfl⟩));go_ret;exact⟨rfl,one_boxX _ _⟩
 ·have n1:(n != 0)=true:=by simpa using hn
  clear hn
  cases x <;> cases y
  all_goals
   go_enter Tryz.func137,Tryz.ntmps137;go_wp2_with (first | (go_at_call 99;((with_reducible refine(KN.out _).mono ?_));rintro e w1 ⟨rfl,rfl⟩) | (go_at_call 154;((with_reducible refine(KS.out _).mono ?_));rintro e w1 ⟨rfl,rfl⟩));go_ret;exact⟨rfl,one_boxX _ _⟩
theorem maywithin_any (r:Ex):∀ (A:Option Addr) (c d:Nat) (w:World),KidsX (LtX w.heap.size) w A r→d≤64→nmX r≤1000000→sizeX r≤1000000→
  Calls Tryz.prog 114 #[valX r A c,.int .i64 d] w fun e w'=>e= .returned (.bool (mayX r d))∧Below w.heap.size w w':=by
 induction r using Ex.ind with
 | h k n nm op ks ih=>
   intro A c d w hk hd hnm hsz;have KH:Hid (∀ w,Calls Tryz.prog 137 #[valX (Ex.mk k n nm op ks) A c] w fun e w'=>e= .returned (.bool (shapeX k n nm op ks.length))∧Below w.heap.size w w'):=Lib.hid fun w=>told_any9 (Ex.mk k n nm op ks) A c w (by rw[nmX] at hnm;show nm.length≤_;omega)
   obtain⟨v,hv⟩:∃ v,v=mayX (Ex.mk k n nm op ks) d:=⟨_,rfl⟩;rw[←hv];rw[mayX] at hv;rw[nmX] at hnm;rw[sizeX] at hsz;have hml:=sizeXL_len ks;have HNM:=Lib.hid hnm;have HSZ:=Lib.hid hsz;simp only[valX] at KH ⊢;generalize (⟨nm.toArray⟩:ByteArray)=X at KH ⊢;generalize (⟨op.toArray⟩:ByteArray)=Y at KH ⊢;generalize shapeX k n nm op ks.length=sh at KH hv;obtain⟨m,hm⟩:∃ m,m=ks.length:=⟨_,rfl⟩;rw[←hm] at KH hml ⊢;have hm9:m≤1000000:=by omega
   have he:ks.isEmpty=decide (m=0):=by rw[hm];cases ks <;> simp
   rw[he] at hv;have HM:=Lib.hid hm;have HK:=Lib.hid hk;have HI:=Lib.hid ih;clear hk ih hm he hnm hsz hml
   cases sh with
   | false=>
     have HX:Hid (v=false):=Lib.hid (by rw[hv];rfl);clear hv;go_enter Tryz.func114,Tryz.ntmps114;go_wp2_with (go_at_call 137;go_must ((with_reducible refine(KH.out _).mono ?_);rintro e w1 ⟨rfl,hb1⟩;have HB1:=Lib.hid ((one_boxX w (.cells #[.int .i64 k,.int .i64 n,.string X,.string Y,.slice A m c] 38)).trans (hb1.mono (by simp)));clear hb1));go_ret;exact⟨ret_bool HX.out.symm,HB1.out⟩
   | true=>
     by_cases hbad:m≠0∧d=64
     ·obtain⟨hm0,rfl⟩:=hbad
      have HX:Hid (v=false):=Lib.hid (by rw[hv];simp[hm0]);have q1:decide ((0:Int)<(m:Int))=true:=by simp;omega
      have q2:decide (0<m)=true:=by simp;omega
      clear hv hm0;go_enter Tryz.func114,Tryz.ntmps114;go_wp2_with (go_at_call 137;go_must ((with_reducible refine(KH.out _).mono ?_);rintro e w1 ⟨rfl,hb1⟩;have HBX:=Lib.hid ((Box5.new w 38 (.int .i64 k) (.int .i64 n) (.string X) (.string Y) (.slice A m c)).low hb1);have HB1:=Lib.hid ((one_boxX w (.cells #[.int .i64 k,.int .i64 n,.string X,.string Y,.slice A m c] 38)).trans (hb1.mono (by simp)));clear hb1;obtain⟨d0,d1,d2,d3,d4,_⟩:=HBX.out));go_ret;exact⟨ret_bool HX.out.symm,HB1.out⟩
     ·have HX:Hid (∀ b,mayL ks (d+1)=b→v=b):=Lib.hid (by
       rintro b rfl;rw[hv];by_cases hm0:m=0
       ·simp[hm0]
       ·have:d<64:=by omega
        simp[this])
      have hq:(m=0∧decide ((0:Int)<(m:Int))=false∧decide (0<m)=false)∨(decide ((0:Int)<(m:Int))=true∧decide (0<m)=true∧((d:Int)==64)=false∧(d==64)=false∧d<64):=by
       by_cases hm0:m=0
       ·left;simp[hm0]
       ·right;refine⟨by simp;omega,by simp;omega,by simp;omega,by simp;omega,by omega⟩
      clear hv hbad
      rcases hq with ⟨rfl,q1,q2⟩ | ⟨q1,q2,q3,q4,hd4⟩
      ·have HX2:Hid (v=true):=Lib.hid (HX.out true (by
        have:=HM.out;rw[List.length_eq_zero_iff.1 this.symm,mayL]))
       clear hd;go_enter Tryz.func114,Tryz.ntmps114;go_wp2_with (go_at_call 137;go_must ((with_reducible refine(KH.out _).mono ?_);rintro e w1 ⟨rfl,hb1⟩;have HBX:=Lib.hid ((Box5.new w 38 (.int .i64 k) (.int .i64 n) (.string X) (.string Y) (.slice A 0 c)).low hb1);have HB1:=Lib.hid ((one_boxX w (.cells #[.int .i64 k,.int .i64 n,.string X,.string Y,.slice A 0 c] 38)).trans (hb1.mono (by simp)));clear hb1;obtain⟨d0,d1,d2,d3,d4,_⟩:=HBX.out))
       go_loopw [23] (fun i wr=>i= .int .i64 0∧wr=w1) (fun _ _=>0)
       case atStart=>exact⟨rfl,rfl⟩
       case round=>
        obtain⟨rfl,rfl⟩:=hrel;go_wp2;go_ret;exact⟨ret_bool HX2.out.symm,HB1.out⟩
      ·go_enter Tryz.func114,Tryz.ntmps114
       go_wp2_with (go_at_call 137;go_must ((with_reducible refine(KH.out _).mono ?_);rintro e w1 ⟨rfl,hb1⟩;have HBX:=Lib.hid ((Box5.new w 38 (.int .i64 k) (.int .i64 n) (.string X) (.string Y) (.slice A m c)).low hb1);have HB1:=Lib.hid ((one_boxX w (.cells #[.int .i64 k,.int .i64 n,.string X,.string Y,.slice A m c] 38)).trans (hb1.mono (by simp)));clear hb1;obtain⟨d0,d1,d2,d3,d4,_⟩:=HBX.out))
       go_loopw [23] (fun i wr=>∃ j:Nat,j≤m∧i= .int .i64 j∧mayL (ks.take j) (d+1)=true∧Below w1.heap.size w1 wr) (fun i _=>m - (intOf i).toNat)
       case atStart=>exact⟨0,by omega,rfl,by rw[List.take_zero,mayL],Below.refl _ _⟩
       case round=>
        obtain⟨j,hj,rfl,ht,hb1⟩:=hrel;have hb:Below w.heap.size w wr:=HB1.out.trans (hb1.mono HB1.out.size);have HT:=Lib.hid ht;have HBB:=Lib.hid hb1;clear ht hb1;by_cases a:j<m
        ·obtain⟨r,hr⟩:=getX_of_lt HM.out a
         obtain⟨ad,B,b,rfl,hp,h9,hkr⟩:=kidX_at HK.out hb hr;have hmem:=List.mem_of_getElem? hr
         have K:∀ w2,Below w.heap.size w w2→Calls Tryz.prog 114 #[valX r B b,.int .i64 ((d:Int)+1)] w2 fun e w'=>e= .returned (.bool (mayX r (d+1)))∧Below w2.heap.size w2 w':=fun w2 h2=>
          HI.out r hmem B b (d+1) w2 (hkr.next h2) (by omega) (by have:=HNM.out;have:=nmXL_mem hmem;omega) (by have:=HSZ.out;have:=sizeXL_mem hmem;omega)
         obtain⟨v2,hv2⟩:∃ v2,v2=mayX r (d+1):=⟨_,rfl⟩;rw[←hv2] at K;have HV2:=Lib.hid hv2;have HR:=Lib.hid hr;clear hr hv2 hkr hmem;obtain⟨k',n',nm',op',ks1⟩:=r;simp only[valX] at K;obtain⟨c0,c1,c2,c3,c4⟩:=h9;generalize (⟨nm'.toArray⟩:ByteArray)=M1 at K c2;generalize (⟨op'.toArray⟩:ByteArray)=M2 at K c3;obtain⟨l1,hl1⟩:∃ l,l=ks1.length:=⟨_,rfl⟩;rw[←hl1] at K c4;have HKC:=Lib.hid K;have HBK:Hid (∀ o,Below w.heap.size w (wr.alloc o)):=Lib.hid fun o=>hb.alloc hb.size o
         clear K hl1
         cases v2 with
         | true=>
           have HT2:Hid (mayL (ks.take (j+1)) (d+1)=true):=Lib.hid (by rw[mayL_take HR.out HT.out];exact HV2.out.symm);go_wp2_with (go_at_call 114;go_must ((with_reducible refine(HKC.out _ (HBK.out _)).mono ?_);rintro e w' ⟨rfl,hb2⟩))
           go_roundw
           case rel=>exact⟨j+1,by omega,by go_num,HT2.out,HBB.out.trans (((one_boxX wr _).trans (hb2.mono (by simp))).mono HBB.out.size)⟩
           case measure=>simp[intOf];omega
         | false=>
           have HX2:Hid (v=false):=Lib.hid (HX.out _ (mayL_not HR.out HV2.out.symm));go_wp2_with (go_at_call 114;go_must ((with_reducible refine(HKC.out _ (HBK.out _)).mono ?_);rintro e w' ⟨rfl,hb2⟩));go_ret;exact⟨ret_bool HX2.out.symm,(HBK.out _).trans (hb2.mono (HBK.out _).size)⟩
        ·have HX2:Hid (v=true):=by
          apply Lib.hid;apply HX.out;have:=HT.out;rw[List.take_of_length_le (by have:=HM.out;omega)] at this;exact this
         go_wp2;go_ret;exact⟨ret_bool HX2.out.symm,hb⟩
theorem cmay_any (r:Ex) (A:Option Addr) (c:Nat) (w:World) (hk:KidsX (LtX w.heap.size) w A r) (hn:nmX r≤1000000) (hs:sizeX r≤1000000):
  Calls Tryz.prog 81 #[valX r A c] w fun e w'=>e= .returned (.bool (mayX r 0))∧Below w.heap.size w w':=by
 have K:Hid (∀ o,Calls Tryz.prog 114 #[valX r A c,.int .i64 0] (w.alloc o) fun e w'=>e= .returned (.bool (mayX r 0))∧Below (w.alloc o).heap.size (w.alloc o) w'):=Lib.hid fun o=>maywithin_any r A c 0 _ (hk.next (one_boxX w o)) (by omega) hn hs
 generalize mayX r 0=v at K ⊢;obtain⟨k',n',nm',op',ks'⟩:=r;simp only[valX] at K ⊢;clear hk hn hs;go_enter Tryz.func81,Tryz.ntmps81;go_wp2_with (go_at_call 114;go_must ((with_reducible refine(K.out _).mono ?_);rintro e w' ⟨rfl,hb2⟩));go_ret;exact⟨rfl,(one_boxX _ _).trans (hb2.mono (by simp))⟩
def KeptK (w w':World):Prop:=w.heap.size≤w'.heap.size∧∀ (k:Nat) (cs:Array Value) (T:TypeId),w.heap[k]?=some (.cells cs T (0,0))→T≠53→w'.heap[k]?=some (.cells cs T (0,0))
theorem KeptK.refl (w:World):KeptK w w:=⟨Nat.le_refl _,fun _ _ _ h _=>h⟩
theorem KeptK.trans {a b c:World} (h:KeptK a b) (k:KeptK b c):KeptK a c:=⟨Nat.le_trans h.1 k.1,fun i cs T hi ht=>k.2 i cs T (h.2 i cs T hi ht) ht⟩
theorem KeptK.below {w w':World} (h:Below w.heap.size w w'):KeptK w w':=⟨h.size,fun k cs T hk _=>by rw[h.block k (Array.getElem?_eq_some_iff.1 hk).1];exact hk⟩
theorem KeptK.alloc (w:World) (o:Obj):KeptK w (w.alloc o):= .below (one_boxX w o)
theorem KeptK.drew (w:World):KeptK w w.drew:=⟨Nat.le_refl _,fun _ _ _ h _=>h⟩
theorem KeptK.grown {w w':World} {B n:Nat} {v:Value} {xs:List Value} (h:w.ownsRow B 53 5 v n xs) (hg:w.grownBy w' v.ownBlock):KeptK w w':=by
 refine⟨hg.size,fun k cs T hk ht=>?_⟩;rw[hg.block k (Array.getElem?_eq_some_iff.1 hk).1 ?_]
 ·exact hk
 ·intro e
  rcases h.2 with ⟨rfl,_⟩ | ⟨g,cap,cur,rfl,_,hh,_⟩
  ·simp[Value.ownBlock] at e
  ·simp only[Value.ownBlock,Option.some.injEq] at e
   subst e;rw[hk] at hh;injection hh with hh
   injection hh with _ ht'
   exact ht ht'
theorem heap_newX (w:World) (o:Obj):(w.alloc o).heap[w.heap.size]?=some o:=by
 show (w.heap.push o)[w.heap.size]?=some o;simp
theorem Tks.root {B:Nat} {w0 w:World} {v:Value} {q:List Tv} (h:Tks B w0 w v q):Tks B w w v q:=⟨h.row,h.parts,Below.refl _ _,h.size⟩
def textSum (ps:List Pt):Nat:=(ps.map fun p=>p.2.length).sum
theorem textSum_app (a b:List Pt):textSum (a++b)=textSum a+textSum b:=by simp[textSum]
theorem textSum_mem {ps:List Pt} {p:Pt} (h:p∈ps):p.2.length≤textSum ps:=by
 induction ps with
 | nil=>cases h
 | cons q r ih=>
   have e:textSum (q::r)=q.2.length+textSum r:=by simp[textSum]
   rw[e]
   rcases List.mem_cons.1 h with rfl | h
   ·omega
   ·have:=ih h;omega
theorem flush_sum (ps:List Pt) (t:Bs):textSum (flush ps t)=textSum ps+t.length:=by
 unfold flush
 split
 ·rename_i e;rw[e];simp
 ·rw[textSum_app];simp[textSum]
theorem goN_sum (r:Bs) (pos:Nat) (ps:List Pt) (t:Bs):∀ out,(goN r pos ps t).1=some out→textSum out≤textSum ps+t.length+r.length:=by
 refine goN_ind (P:=fun r pos ps t=>∀ out,(goN r pos ps t).1=some out→textSum out≤textSum ps+t.length+r.length) ?_ ?_ ?_ ?_ (r.length+1) r pos ps t (Nat.lt_succ_self _)
 ·intro r k pos ps t h out ho
  rw[goN_bad h] at ho;cases ho
 ·intro r pos ps t h out ho
  rw[goN_stop h] at ho;injection ho with ho;subst ho
  rw[flush_sum];omega
 ·intro r nm k pos ps t h h0 h1 ih out ho
  rw[goN_var h] at ho;have:=ih out ho;rw[textSum_app,flush_sum,List.length_drop] at this;simp[textSum] at this;simp only[textSum];omega
 ·intro r c k pos ps t h h0 h1 ih out ho
  rw[goN_byte h] at ho;have:=ih out ho;rw[List.length_append,List.length_drop] at this;simp at this;omega
theorem parse_sum (l:Bs) (out:List Pt) (h:(parse l).1=some out):textSum out≤l.length:=by
 cases l with
 | nil=>simp[parse] at h
 | cons c r=>
   by_cases hc:c=34
   ·subst hc
    rw[parse_quote] at h;have:=goN_sum r 1 [] [] out h;simp[textSum] at this ⊢;omega
   ·rw[parse_no c r hc] at h;cases h
theorem print_sum:∀ ps:List Pt,(∀ p∈ps,p.1.length≤8)→(ps.flatMap prP).length≤11 * ps.length+4 * textSum ps
 | [],_=>by simp
 | p::r,h=>by
   have h1:=print_sum r fun q hq=>h q (by simp[hq])
   have h2:=h p (by simp);have h3:=bytes_len p.2
   have h4:(prV p.1).length≤11:=by
    unfold prV
    split
    ·simp
    ·simp;omega
   have e:textSum (p::r)=p.2.length+textSum r:=by simp[textSum]
   have h5:(prP p).length=(prV p.1).length+(p.2.flatMap prB).length:=by unfold prP;rw[List.length_append]
   rw[List.flatMap_cons,List.length_append,List.length_cons,e,h5];omega
theorem fit_read {N:Nat} {t:Tok} (h:Read1 N t) (hN:N≤400):FitT t:=by
 have ho:=h.ok
 have hn: -9223372036854775808≤t.n∧t.n≤9223372036854775807:=by
  refine⟨?_,h.n⟩;unfold okT at ho
  split at ho
  ·simp at ho;omega
  ·split at ho <;> (simp at ho;omega)
 rcases h.parts with e | ⟨l,q,e,hl⟩
 ·exact⟨by have:=h.word;omega,hn,by rw[e];simp,by rw[e];simp,by rw[e];simp,by rw[e];decide⟩
 ·have h1:=parse_len l t.parts (by rw[e])
  have h2:=parse_sum l t.parts (by rw[e])
  have h3:∀ p∈t.parts,p.1.length≤8:=by
   unfold okT at ho
   split at ho
   ·simp at ho;rw[ho.2];simp
   ·split at ho
    ·simp at ho;exact may_names false _ ho.2
    ·simp at ho;rw[ho.2];simp
  have h4:=print_sum t.parts h3;refine⟨by have:=h.word;omega,hn,by omega,fun p hp=>by have:=h3 p hp;omega,fun p hp=>by have:=textSum_mem hp;omega,?_⟩;unfold print;rw[List.length_cons,List.length_append,List.length_singleton];omega
theorem fitl_read {s:Bs} {ts:List Tok} (h:∀ t∈ts,Read1 s.length t) (hl:ts.length≤s.length) (hs:s.length≤400):FitL ts:=⟨fun t ht=>(h t ht).ok,fun t ht=>fit_read (h t ht) hs,by omega⟩
def okN (z:Int):Prop:= -9223372036854775808≤z∧z≤9223372036854775807
inductive NumX:Ex→Prop where
 | mk {k n nm op ks}:okN n→(∀ x∈ks,NumX x)→NumX (.mk k n nm op ks)
def CSame (x:Ex):Prop:=∀ (y:Ex) (A A':Option Addr) (c c':Nat) (w:World),KidsX (LtX w.heap.size) w A x→KidsX (LtX w.heap.size) w A' y→sizeX x≤1000000→sizeX y≤1000000→
 Calls Tryz.prog 39 #[valX x A c,valX y A' c'] w fun e w'=>e= .returned (.bool (eqB x y))∧Below w.heap.size w w'
theorem equal_of (k n k2 n2:Int) (nm op nm2 op2:Bs) (ks ks2:List Ex) (ih:∀ x∈ks,CSame x) (A A':Option Addr) (c c':Nat) (w:World) (hk:KidsX (LtX w.heap.size) w A (.mk k n nm op ks)) (hk':KidsX (LtX w.heap.size) w A' (.mk k2 n2 nm2 op2 ks2)) (hs:sizeXL ks≤1000000) (hs':sizeXL ks2≤1000000):
  Calls Tryz.prog 85 #[.slice A ks.length c,.slice A' ks2.length c',.func (.func 39) #[] #[]] w fun e w'=>e= .returned (.bool (eqB ks ks2))∧Below w.heap.size w w':=by
 obtain⟨v,hv⟩:∃ v,v=eqB ks ks2:=⟨_,rfl⟩;rw[←hv];have HV:=Lib.hid hv;obtain⟨m,hm⟩:∃ m,m=ks.length:=⟨_,rfl⟩;obtain⟨m2,hm2⟩:∃ m,m=ks2.length:=⟨_,rfl⟩;have hmx:=sizeXL_len ks;have hm9:m≤1000000:=by omega
 rw[←hm,←hm2];have HK:=Lib.hid hk;have HK':=Lib.hid hk';have HI:=Lib.hid ih;have HS:=Lib.hid hs;have HS':=Lib.hid hs';have HM:=Lib.hid hm;have HM':=Lib.hid hm2;clear hv ih hk hk' hs hs' hm hm2 hmx;by_cases f6:m=m2
 ·have g6:((m:Int) != (m2:Int))=false:=by simp[f6]
  have g7:(m != m2)=false:=by simp[f6]
  subst f6;go_enter Tryz.func85,Tryz.ntmps85;go_wp2
  go_loopw [17] (fun i wr=>∃ j:Nat,j≤m∧i= .int .i64 j∧ks.take j=ks2.take j∧Below w.heap.size w wr) (fun i _=>m - (intOf i).toNat)
  case atStart=>exact⟨0,by omega,rfl,rfl,Below.refl _ _⟩
  case round=>
   obtain⟨j,hj,rfl,ht,hb⟩:=hrel;have HB:=Lib.hid hb;have HT:=Lib.hid ht;clear ht;by_cases a:j<m
   ·obtain⟨r,hr⟩:=getX_of_lt HM.out a
    obtain⟨r',hr'⟩:=getX_of_lt HM'.out a;obtain⟨ad,B,b,rfl,hp,h9,hkr⟩:=kidX_at HK.out hb hr;obtain⟨ad',B',b',rfl,hp',h9',hkr'⟩:=kidX_at HK'.out hb hr';have hmem:=List.mem_of_getElem? hr;have hsz1:=sizeXL_mem hmem;have hsz2:=sizeXL_mem (List.mem_of_getElem? hr')
    have K:∀ w2,Below wr.heap.size wr w2→Calls Tryz.prog 39 #[valX r B b,valX r' B' b'] w2 fun e w'=>e= .returned (.bool (eqB r r'))∧Below w2.heap.size w2 w':=fun w2 h2=>
     HI.out r hmem r' B B' b b' w2 (hkr.next (hb.trans (h2.mono hb.size))) (hkr'.next (hb.trans (h2.mono hb.size))) (by have:=HS.out;omega) (by have:=HS'.out;omega)
    obtain⟨v2,hv2⟩:∃ v2,v2=eqB r r':=⟨_,rfl⟩;rw[←hv2] at K;have HV2:=Lib.hid hv2;have HR:=Lib.hid hr;have HR':=Lib.hid hr';have hbt:(ad.add (j * 5)).block<wr.heap.size:=by rw[blockX_add];have:=hb.size;omega
    have hbt':(ad'.add (j * 5)).block<wr.heap.size:=by rw[blockX_add];have:=hb.size;omega
    clear hr hr' hv2 hkr hkr' hmem hsz1 hsz2;obtain⟨k',n',nm',op',ks1⟩:=r;obtain⟨k3,n3,nm3,op3,ks3⟩:=r';simp only[valX] at K;obtain⟨c0,c1,c2,c3,c4⟩:=h9;obtain⟨d0,d1,d2,d3,d4⟩:=h9';obtain⟨M1,hM1⟩:∃ M:ByteArray,M=⟨nm'.toArray⟩:=⟨_,rfl⟩;obtain⟨M2,hM2⟩:∃ M:ByteArray,M=⟨op'.toArray⟩:=⟨_,rfl⟩;obtain⟨M3,hM3⟩:∃ M:ByteArray,M=⟨nm3.toArray⟩:=⟨_,rfl⟩;obtain⟨M4,hM4⟩:∃ M:ByteArray,M=⟨op3.toArray⟩:=⟨_,rfl⟩;obtain⟨l1,hl1⟩:∃ l,l=ks1.length:=⟨_,rfl⟩;obtain⟨l2,hl2⟩:∃ l,l=ks3.length:=⟨_,rfl⟩;rw[←hM1,←hM2,←hM3,←hM4,←hl1,←hl2] at K;rw[←hM1] at c2;rw[←hM2] at c3;rw[←hl1] at c4;rw[←hM3] at d2;rw[←hM4] at d3;rw[←hl2] at d4;have HKC:Hid (∀ o1 o2,Calls Tryz.prog 39 #[.agg #[.int .i64 k',.int .i64 n',.string M1,.string M2,.slice B l1 b],.agg #[.int .i64 k3,.int .i64 n3,.string M3,.string M4,.slice B' l2 b']] ((wr.alloc o1).alloc o2) fun e w'=>e= .returned (.bool v2)∧Below wr.heap.size wr w'):=Lib.hid fun o1 o2=>(K _ (two_boxesX wr o1 o2)).mono fun e w' ⟨he,h2⟩=>⟨he,(two_boxesX wr o1 o2).trans (h2.mono (by simp;omega))⟩
    clear K hM1 hM2 hM3 hM4 hl1 hl2 hb hp hp'
    cases v2 with
    | true=>
      have HX:Hid (ks.take (j+1)=ks2.take (j+1)):=Lib.hid (by
       have:=eqB_of HV2.out.symm;rw[←this] at HR';exact take_eqX HT.out HR.out HR'.out)
      go_wp2_with (go_at_call 39;go_must ((with_reducible refine(HKC.out _ _).mono ?_);rintro e w4 ⟨rfl,hb4⟩))
      go_roundw
      case rel=>exact⟨j+1,by omega,by go_num,HX.out,HB.out.trans (hb4.mono HB.out.size)⟩
      case measure=>simp[intOf];omega
    | false=>
      have HX2:Hid (v=false):=Lib.hid (by rw[HV.out];exact eqB_no (not_eqX HR.out HR'.out (eqB_not HV2.out.symm)));go_wp2_with (go_at_call 39;go_must ((with_reducible refine(HKC.out _ _).mono ?_);rintro e w4 ⟨rfl,hb4⟩));go_ret;exact⟨ret_bool HX2.out.symm,HB.out.trans (hb4.mono HB.out.size)⟩
   ·have HX2:Hid (v=true):=Lib.hid (by
     rw[HV.out];have:=HT.out;rw[List.take_of_length_le (by have:=HM.out;omega),List.take_of_length_le (by have:=HM'.out;omega)] at this;exact eqB_yes this)
    clear hb;go_wp2;go_ret;exact⟨ret_bool HX2.out.symm,HB.out⟩
 ·have HX:Hid (v=false):=Lib.hid (by rw[HV.out];exact eqB_no (fun h=>f6 (by rw[HM.out,HM'.out,h])))
  have g6:((m:Int) != (m2:Int))=true:=by simp;omega
  have g7:(m != m2)=true:=by simp[f6]
  clear f6;go_enter Tryz.func85,Tryz.ntmps85;go_wp2;go_ret;exact⟨ret_bool HX.out.symm,Below.refl _ _⟩
theorem eqX_of {k n k2 n2:Int} {nm op nm2 op2:Bs} {ks ks2:List Ex} (h1:k=k2) (h2:n=n2) (h3:nm=nm2) (h4:op=op2):eqB (Ex.mk k n nm op ks) (Ex.mk k2 n2 nm2 op2 ks2)=eqB ks ks2:=by
 by_cases h:ks=ks2
 ·rw[eqB_yes h,eqB_yes (by rw[h1,h2,h3,h4,h])]
 ·rw[eqB_no h,eqB_no (fun e=>h (by injection e))]
theorem csame_any (x:Ex):CSame x:=by
 induction x using Ex.ind with
 | h k n nm op ks ih=>
   intro y A A' c c' w hk hk' hs hs';obtain⟨k2,n2,nm2,op2,ks2⟩:=y;obtain⟨v,hv⟩:∃ v,v=eqB (Ex.mk k n nm op ks) (Ex.mk k2 n2 nm2 op2 ks2):=⟨_,rfl⟩;rw[←hv];rw[sizeX] at hs hs';simp only[valX]
   have KE:Hid (∀ w',Below w.heap.size w w'→Calls Tryz.prog 85 #[.slice A ks.length c,.slice A' ks2.length c',.func (.func 39) #[] #[]] w' fun e w2=>e= .returned (.bool (eqB ks ks2))∧Below w'.heap.size w' w2):=Lib.hid fun w' hb=>
    equal_of k n k2 n2 nm op nm2 op2 ks ks2 ih A A' c c' w' (hk.next hb) (hk'.next hb) (by omega) (by omega)
   have HV:=Lib.hid hv;obtain⟨X,hX⟩:∃ X:ByteArray,X=⟨nm.toArray⟩:=⟨_,rfl⟩;obtain⟨X2,hX2⟩:∃ X:ByteArray,X=⟨nm2.toArray⟩:=⟨_,rfl⟩;obtain⟨Y,hY⟩:∃ X:ByteArray,X=⟨op.toArray⟩:=⟨_,rfl⟩;obtain⟨Y2,hY2⟩:∃ X:ByteArray,X=⟨op2.toArray⟩:=⟨_,rfl⟩;have gx:=nameX_eq hX hX2;have gy:=nameX_eq hY hY2;obtain⟨u,hu⟩:∃ u,u=eqB ks ks2:=⟨_,rfl⟩;rw[←hu] at KE;have HU:=Lib.hid hu;rw[←hX,←hX2,←hY,←hY2];generalize ks.length=m at KE ⊢;generalize ks2.length=m2 at KE ⊢;clear hv ih hk hk' hs hs' hX hX2 hY hY2 hu;by_cases f1:k=k2
   ·by_cases f2:n=n2
    ·by_cases f3:nm=nm2
     ·by_cases f4:op=op2
      ·have HX:Hid (v=u):=Lib.hid (by rw[HV.out,HU.out];exact eqX_of f1 f2 f3 f4)
       have g1:(k==k2)=true:=by simp[f1]
       have g2:(n==n2)=true:=by simp[f2]
       rw[eqB_yes f3] at gx;rw[eqB_yes f4] at gy;subst f1 f2;clear f3 f4;go_enter Tryz.func39,Tryz.ntmps39;go_wp2_with (go_at_call 85;go_must ((with_reducible refine(KE.out _ (two_boxesX w _ _)).mono ?_);rintro e w4 ⟨rfl,hb4⟩));go_ret;exact⟨ret_bool HX.out.symm,(two_boxesX w _ _).trans (hb4.mono (by simp;omega))⟩
      ·have HX:Hid (v=false):=Lib.hid (by rw[HV.out];exact eqB_no (fun h=>f4 (by injection h)))
       have g1:(k==k2)=true:=by simp[f1]
       have g2:(n==n2)=true:=by simp[f2]
       rw[eqB_yes f3] at gx;rw[eqB_no f4] at gy;subst f1 f2;clear f3 f4;go_enter Tryz.func39,Tryz.ntmps39;go_wp2;go_ret;exact⟨ret_bool HX.out.symm,two_boxesX _ _ _⟩
     ·have HX:Hid (v=false):=Lib.hid (by rw[HV.out];exact eqB_no (fun h=>f3 (by injection h)))
      have g1:(k==k2)=true:=by simp[f1]
      have g2:(n==n2)=true:=by simp[f2]
      rw[eqB_no f3] at gx;subst f1 f2;clear f3;go_enter Tryz.func39,Tryz.ntmps39;go_wp2;go_ret;exact⟨ret_bool HX.out.symm,two_boxesX _ _ _⟩
    ·have HX:Hid (v=false):=Lib.hid (by rw[HV.out];exact eqB_no (fun h=>f2 (by injection h)))
     have g1:(k==k2)=true:=by simp[f1]
     have g2:(n==n2)=false:=by simp[f2]
     subst f1;clear f2;go_enter Tryz.func39,Tryz.ntmps39;go_wp2;go_ret;exact⟨ret_bool HX.out.symm,two_boxesX _ _ _⟩
   ·have HX:Hid (v=false):=Lib.hid (by rw[HV.out];exact eqB_no (fun h=>f1 (by injection h)))
    have g1:(k==k2)=false:=by simp[f1]
    clear f1;go_enter Tryz.func39,Tryz.ntmps39;go_wp2;go_ret;exact⟨ret_bool HX.out.symm,two_boxesX _ _ _⟩
end Go.Proofs.YtngfihoempcplaaGreatDoor
