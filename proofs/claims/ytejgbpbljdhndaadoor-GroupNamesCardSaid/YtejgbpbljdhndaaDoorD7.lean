import Derived.Test.YtejgbpbljdhndaaDoorD4
namespace Go.Proofs.YtejgbpbljdhndaaDoor
open Go Go.RowKit
set_option maxRecDepth 100000
set_option maxHeartbeats 8000000
abbrev AtBad (fn b:Nat) (s:ByteArray) (k g:Nat) (d:Int) (q z:Nat):Prop:=∀ w,Rdr b w s k g 0→Calls Tryd.prog fn #[.pointer (some ⟨b,0,none⟩),.int .i64 d] w fun e w'=>(∃ x A c,e= .returned (valR x A c)∧Kids (Fr w.heap.size w'.heap.size) w' A x)∧(∃ g2,Rdr b w' s q g2 z)∧w.grownBy w' (some b)
abbrev AtOk (fn b:Nat) (s:ByteArray) (k g:Nat) (d:Int) (q g':Nat) (x:Re):Prop:=∀ w,Rdr b w s k g 0→Calls Tryd.prog fn #[.pointer (some ⟨b,0,none⟩),.int .i64 d] w fun e w'=>(∃ A c,e= .returned (valR x A c)∧Kids (Fr w.heap.size w'.heap.size) w' A x)∧Rdr b w' s q g' 0∧w.grownBy w' (some b)
theorem x0a {fn:Nat} {s:ByteArray} {d:Nat} {rd:Rd} (h:RdD fn s d rd) (b:Nat) {k g q z:Nat} {er:Int} (hst:stops s.data.toList k=false) (hk:k<s.size) (hg:g≤k) (hR:rd k g= .bad q er) (hz:er=z):AtBad fn b s k g d q z:=fun w hr=>by
 have:=h b w k g hr hst hk hg;rw[hR] at this;refine this.mono fun e w' ⟨h1,x,A,c,h2,h3,g',z',h4,_,h5⟩=>⟨⟨x,A,c,h2,h3⟩,⟨g',?_⟩,h1⟩
 have:z'=z:=by omega
 rw[←this];exact h5
theorem at_ok {fn:Nat} {s:ByteArray} {d:Nat} {rd:Rd} (h:RdD fn s d rd) (b:Nat) {k g q g':Nat} {x:Re} (hst:stops s.data.toList k=false) (hk:k<s.size) (hg:g≤k) (hR:rd k g= .ok x q g'):AtOk fn b s k g d q g' x:=fun w hr=>by
 have:=h b w k g hr hst hk hg;rw[hR] at this;exact this.mono fun e w' ⟨h1,y,A,c,h2,h3,h4,_,h5⟩=>by subst h4;exact⟨⟨A,c,h2,h3⟩,h5,h1⟩
abbrev BrT (b:Nat) (s:ByteArray) (k g:Nat) (lo hi:Int) (q z:Nat):Prop:=∀ w,Rdr b w s k g 0→Calls Tryd.prog 67 #[.pointer (some ⟨b,0,none⟩)] w fun e w'=>e= .returned (.tuple #[.int .i64 lo,.int .i64 hi])∧Rdr b w' s q g z∧w.grownBy w' (some b)
theorem x4e (b:Nat) {s:ByteArray} {k q:Nat} (g:Nat) (h:bnds s.data.toList k= .bad q) (hs:s.size≤1000000) (hk:k≤s.size):BrT b s k g 0 0 q 1:=fun w hr=>by
 have:=z7u b w s k g hr hs hk;rw[h] at this;exact this.mono fun e w' ⟨a,c,d⟩=>⟨c,d,a⟩
theorem br_ok (b:Nat) {s:ByteArray} {k q:Nat} {p:Int × Int} (g:Nat) (h:bnds s.data.toList k= .ok p q) (hs:s.size≤1000000) (hk:k≤s.size):BrT b s k g p.1 p.2 q 0:=fun w hr=>by
 have:=z7u b w s k g hr hs hk;rw[h] at this;exact this.mono fun e w' ⟨a,c,d⟩=>⟨c,d,a⟩
theorem z8o {b:Nat} {W0 W:World} (_:W0.grownBy W (some b)) (v0 v1 v2 v3 v4 v5 v6 v7 v8:Value):Box9 (W.alloc (.cells #[v0,v1,v2,v3,v4,v5,v6,v7,v8] 27)) W.heap.size v0 v1 v2 v3 v4 v5 v6 v7 v8:=Box9.new W v0 v1 v2 v3 v4 v5 v6 v7 v8
theorem y6l {s:Bs} {q:Nat} (x:Re) (g:Nat) (h:∀ c∈sgR,s[q]?≠some c):tailP s x q g= .ok x q g:=by
 unfold tailP;rw[if_neg (h 42 (by decide)),if_neg (h 43 (by decide)),if_neg (h 63 (by decide)),if_neg (h 123 (by decide))]
theorem z68 {grp:Rd} {s:Bs} {k g q g':Nat} {x:Re} (h:atomR grp s k g= .ok x q g') (hn:∀ c∈sgR,s[q]?≠some c):pieceR grp s k g= .ok x q g':=by
 have hns:¬ signAt s q:=fun ⟨c,h1,h2⟩=>hn c h2 h1
 unfold pieceR;rw[h];dsimp only;rw[y6l x g' hn];by_cases hr:rep x=true
 ·rw[if_pos hr]
 ·rw[if_neg hr,if_neg hns]
theorem z4b {grp:Rd} {s:Bs} {k g q g':Nat} {x:Re} {c:UInt8} (h:atomR grp s k g= .ok x q g') (hc:s[q]?=some c) (hs:c∈sgR):pieceR grp s k g=if rep x=true then tailP s x q g' else .bad q 1:=by
 have hsg:signAt s q:=⟨c,hc,hs⟩;unfold pieceR;rw[h];dsimp only;by_cases hr:rep x=true
 ·rw[if_pos hr,if_pos hr]
 ·rw[if_neg hr,if_neg hr,if_pos hsg]
theorem z1e {b:Nat} {w wx:World} {cs:Array Value} {ty:Nat} {v0 v1 v2 v3 v4 v5 v6 v7 v8:Value} {s:ByteArray} {q g z:Nat} {e:Ending} {kx:Int} {S:S4} {ks:List Re} {lo hi n:Int} {A:Option Addr} {c:Nat}
  (hb:Hid (b<w.heap.size)) (HG:Hid (w.grownBy (w.alloc (.cells cs ty)) (some b))) (HB:Hid (Box9 (w.alloc (.cells cs ty)) w.heap.size v0 v1 v2 v3 v4 v5 v6 v7 v8))
  (he:e= .returned (valR (.mk kx S ks lo hi n) A c)) (hkid:Kids (Fr (w.alloc (.cells cs ty)).heap.size wx.heap.size) wx A (.mk kx S ks lo hi n)) (hr1:Rdr b wx s q g z) (hg1:(w.alloc (.cells cs ty)).grownBy wx (some b)):
  e= .returned (.agg #[.int .i64 kx,.int .u64 S.1.toNat,.int .u64 S.2.1.toNat,.int .u64 S.2.2.1.toNat,.int .u64 S.2.2.2.toNat,.slice A ks.length c,.int .i64 lo,.int .i64 hi,.int .i64 n])∧Hid (w.heap.size+1≤wx.heap.size)∧Hid (Rdr b (wx.alloc (.cells #[.int .i64 kx,.int .u64 S.1.toNat,.int .u64 S.2.1.toNat,.int .u64 S.2.2.1.toNat,.int .u64 S.2.2.2.toNat,.slice A ks.length c,.int .i64 lo,.int .i64 hi,.int .i64 n] 27)) s q g z)∧Hid (w.grownBy (wx.alloc (.cells #[.int .i64 kx,.int .u64 S.1.toNat,.int .u64 S.2.1.toNat,.int .u64 S.2.2.1.toNat,.int .u64 S.2.2.2.toNat,.slice A ks.length c,.int .i64 lo,.int .i64 hi,.int .i64 n] 27)) (some b))∧Hid (Box9 (wx.alloc (.cells #[.int .i64 kx,.int .u64 S.1.toNat,.int .u64 S.2.1.toNat,.int .u64 S.2.2.1.toNat,.int .u64 S.2.2.2.toNat,.slice A ks.length c,.int .i64 lo,.int .i64 hi,.int .i64 n] 27)) w.heap.size v0 v1 v2 v3 v4 v5 v6 v7 v8)∧
  Hid (∀ W',(wx.alloc (.cells #[.int .i64 kx,.int .u64 S.1.toNat,.int .u64 S.2.1.toNat,.int .u64 S.2.2.1.toNat,.int .u64 S.2.2.2.toNat,.slice A ks.length c,.int .i64 lo,.int .i64 hi,.int .i64 n] 27)).grownBy W' (some b)→Box9 W' wx.heap.size (.int .i64 kx) (.int .u64 S.1.toNat) (.int .u64 S.2.1.toNat) (.int .u64 S.2.2.1.toNat) (.int .u64 S.2.2.2.toNat) (.slice A ks.length c) (.int .i64 lo) (.int .i64 hi) (.int .i64 n))∧Hid (∀ W',(wx.alloc (.cells #[.int .i64 kx,.int .u64 S.1.toNat,.int .u64 S.2.1.toNat,.int .u64 S.2.2.1.toNat,.int .u64 S.2.2.2.toNat,.slice A ks.length c,.int .i64 lo,.int .i64 hi,.int .i64 n] 27)).grownBy W' (some b)→Kids (Fr (w.heap.size+1) wx.heap.size) W' A (.mk kx S ks lo hi n))∧
  Hid ((wx.alloc (.cells #[.int .i64 kx,.int .u64 S.1.toNat,.int .u64 S.2.1.toNat,.int .u64 S.2.2.1.toNat,.int .u64 S.2.2.2.toNat,.slice A ks.length c,.int .i64 lo,.int .i64 hi,.int .i64 n] 27)).grownBy (wx.alloc (.cells #[.int .i64 kx,.int .u64 S.1.toNat,.int .u64 S.2.1.toNat,.int .u64 S.2.2.1.toNat,.int .u64 S.2.2.2.toNat,.slice A ks.length c,.int .i64 lo,.int .i64 hi,.int .i64 n] 27)) (some b)):=by
 have hsz1:w.heap.size+1≤wx.heap.size:=by simpa using hg1.size
 have ha:=z0f (b:=b) (z0b wx (.cells #[.int .i64 kx,.int .u64 S.1.toNat,.int .u64 S.2.1.toNat,.int .u64 S.2.2.1.toNat,.int .u64 S.2.2.2.toNat,.slice A ks.length c,.int .i64 lo,.int .i64 hi,.int .i64 n] 27));have hk0:Kids (Fr (w.heap.size+1) wx.heap.size) wx A (.mk kx S ks lo hi n):=by simpa using hkid
 exact⟨he,Lib.hid hsz1,Lib.hid (hr1.low (z0b wx _)),Lib.hid (z0a (z0a HG.out hg1) ha),Lib.hid ((HB.out.grown hg1 (Nat.ne_of_gt hb.out)).grown ha (Nat.ne_of_gt hb.out)),
  Lib.hid (fun W' hg=>(Box9.new wx (.int .i64 kx) (.int .u64 S.1.toNat) (.int .u64 S.2.1.toNat) (.int .u64 S.2.2.1.toNat) (.int .u64 S.2.2.2.toNat) (.slice A ks.length c) (.int .i64 lo) (.int .i64 hi) (.int .i64 n)).grown hg (Nat.ne_of_gt (Nat.lt_of_lt_of_le hb.out (Nat.le_trans (Nat.le_succ _) hsz1)))),
  Lib.hid (fun W' hg=>(hk0.grownF ha (.inl (Nat.lt_succ_of_lt hb.out)) (Nat.le_refl _)).grownF hg (.inl (Nat.lt_succ_of_lt hb.out)) (by simp)),Lib.hid (z5j _ _)⟩
def DoneD (b:Nat) (s:ByteArray) (R:Ro Re) (x:Re) (w':World):Prop:=match R with
 | .bad q er=>∃ (g' z:Nat),er=(z:Int)∧(z=1∨z=8)∧Rdr b w' s q g' z
 | .ok y q g'=>y=x∧g'≤q∧Rdr b w' s q g' 0
theorem z1r {b:Nat} {w w':World} {s:ByteArray} {R:Ro Re} {x:Re} {A:Option Addr} {c:Nat} {v:Value} (hg:w.grownBy w' (some b)) (hv:v=valR x A c) (hk:Kids (Fr w.heap.size w'.heap.size) w' A x) (hd:DoneD b s R x w'):PostD b w s R (.returned v) w':=by
 subst hv;exact⟨hg,x,A,c,rfl,hk,hd⟩
def gasD (b n:Nat) (w:World):Nat:=match w.cell? ⟨b,3,none⟩,w.cell? ⟨b,1,none⟩ with
 | some (.int _ z),some (.int _ i)=>if z=0 then n+1 - i.toNat else 0
 | _,_=>0
theorem z5i {b n:Nat} {w:World} {s:ByteArray} {k g o:Nat} (h:Rdr b w s k g o):gasD b n w=if o=0 then n+1 - k else 0:=by
 unfold gasD;rw[h.c3,h.c1];simp
def LoopD (pc:Rd) (b:Nat) (w:World) (s:ByteArray) (R:Ro (List Re)) (v:Value) (wr:World):Prop:=
 ∃ (k g:Nat) (l:List Rv) (o:Nat),k≤s.size∧l.length≤k+1∧Rdr b wr s k g o∧Trees b w wr v l∧((o=0∧g≤k∧l.length≤k∧rowL pc s.data.toList k g (l.map (·.1))=R)∨((o=1∨o=8)∧R= .bad k (o:Int)∧l≠[]))
theorem z4j {b:Nat} {s:ByteArray} {Q:Ro Re} {x:Re} {k g:Nat} (h:Q= .ok x k g) (hg:g≤k):∀ W,Rdr b W s k g 0→DoneD b s Q x W:=fun W hr=>by subst h;exact⟨rfl,hg,hr⟩
theorem z5y {b:Nat} {s:ByteArray} {Q:Ro Re} {k g o:Nat} (x:Re) (h:Q= .bad k (o:Int)) (ho:o=1∨o=8):∀ W,Rdr b W s k g o→DoneD b s Q x W:=fun W hr=>by subst h;exact⟨g,o,rfl,ho,hr⟩
theorem y97 (s:ByteArray) (d:Nat) (pc:Rd) (hs:s.size≤200) (hpc:RdD 46 s d pc) (hsane:Sane s pc) (hgood:Good s.data.toList pc):RdED 34 s d (rowOf pc s.data.toList):=by
 intro b w k0 g0 h hk0 hgk0;obtain⟨Q,hQ⟩:∃ Q,Q=rowOf pc s.data.toList k0 g0:=⟨_,rfl⟩;rw[←hQ];unfold rowOf at hQ;obtain⟨R,hR⟩:∃ R,R=rowL pc s.data.toList k0 g0 []:=⟨_,rfl⟩;rw[←hR] at hQ;have HQ:=Lib.hid hQ;have HR0:=Lib.hid hR.symm;have hb:=Lib.hid h.lt;have HR:=Lib.hid (h.low (z0b w (.cells #[.int .i64 0,.int .u64 0,.int .u64 0,.int .u64 0,.int .u64 0,.slice none 0 0,.int .i64 0,.int .i64 0,.int .i64 0] 27)));have HT:=Lib.hid (Trees.start h.lt);have hsz:s.data.toList.length=s.size:=rfl;have HSZ:=Lib.hid hsz;obtain⟨i0,hi0,hz0,hz1,hz2⟩:=info_parts x0q;clear h hQ hR hsz;go_enter Tryd.func34,Tryd.ntmps34;go_wp2
 go_loopw [5] (fun v wr=>LoopD pc b w s R v wr) (fun _ wr=>gasD b s.size wr)
 case atStart=>exact⟨k0,g0,[],0,hk0,by simp,HR.out,HT.out,.inl ⟨rfl,hgk0,by simp,HR0.out⟩⟩
 case round=>
  clear HR HT;obtain⟨k,g,l,o,hk,hlk,hr,ht,hway⟩:=hrel;obtain⟨A,c,rfl⟩:=z1k ht.row;have HR:=Lib.hid hr;have HT:=Lib.hid ht;obtain⟨c0,c1,_,c3,_,_,_⟩:=hr;clear ht
  rcases hway with ⟨rfl,hgk,hlk2,hg⟩ | ⟨ho,hbad,hl0⟩
  ·have HG:=Lib.hid hg
   clear hg;by_cases a:k<s.size
   ·have hget:=z2g s k a
    obtain⟨y,hy⟩:∃ y:Int,y=(s[k].toNat:Int):=⟨_,rfl⟩;have hyy:(s[k].toNat:Int)=y:=hy.symm;have b1:decide ((k:Int)<(s.size:Int))=true:=by simp;omega
    by_cases hst:s[k]=124∨s[k]=41
    ·have hs1:stops s.data.toList k=true:=by unfold stops;rw[hget];rcases hst with h | h <;> simp[h]
     have HD:Hid (∀ W,Rdr b W s k g 0→DoneD b s Q (mkRow (l.map (·.1))) W):=Lib.hid (z4j (by rw[HQ.out,←HG.out,z2m hs1]) hgk)
     rcases hst with h | h
     ·obtain rfl:y=124:=by rw[hy,h];rfl
      clear hs1 h hget hy;go_wp2;go_quiet (fail);have HR':=Lib.hid (HR.out.drews nq);have HT':=Lib.hid (HT.out.next (z0d b nq _));obtain⟨d0,d1,d2,d3,d4,d5,d6,d7,d8,_⟩:=HT'.out.res;obtain⟨e0,e1,e2,e3,e4,e5,e6,e7,e8⟩:=Box9.freed HT'.out.res
      rcases l with _ | ⟨x,_ | ⟨y,r⟩⟩
      ·go_wp2
       obtain⟨W3,hW3,hbx,hr,hgw⟩:=endT (.int .i64 0) (.int .u64 0) (.int .u64 0) (.int .u64 0) (.int .u64 0) (.slice none 0 0) (.int .i64 0) (.int .i64 0) (.int .i64 0) hb.out HR'.out HT'.out.grown HT'.out.res;unfold put9 at hW3;rw[←hW3];obtain⟨l0,l1,l2,l3,l4,l5,l6,l7,l8,_⟩:=hbx;exact bodyPost_ret (v:= .agg #[.int .i64 0,.int .u64 0,.int .u64 0,.int .u64 0,.int .u64 0,.slice none 0 0,.int .i64 0,.int .i64 0,.int .i64 0]) (by simp[results,Tryd.results34,go_sem,l0,l1,l2,l3,l4,l5,l6,l7,l8]) rfl (z1r hgw (by rfl) (Kids.leaf _ _ none _ _ _ _ _) (c:=0) (HD.out _ hr))
      ·obtain⟨gx,cap,hv,_,hgx⟩:=HT'.out.row.form (by simp)
       injection hv with hA _ hc
       subst hA hc;obtain⟨⟨kx,S,ks,lo,hi,n⟩,A',c'⟩:=x;obtain⟨x0,x1,x2,x3,x4,x5,x6,x7,x8⟩:=z2z (HT'.out.at_ (i:=0) rfl);clear hgx;go_wp2;obtain⟨W3,hW3,hbx,hr,hgw⟩:=endT (.int .i64 kx) (.int .u64 S.1.toNat) (.int .u64 S.2.1.toNat) (.int .u64 S.2.2.1.toNat) (.int .u64 S.2.2.2.toNat) (.slice A' ks.length c') (.int .i64 lo) (.int .i64 hi) (.int .i64 n) hb.out HR'.out HT'.out.grown HT'.out.res
       have KK:Kids (Fr w.heap.size W3.heap.size) W3 A' (.mk kx S ks lo hi n):=by
        have hs2:=congrArg (fun W=>W.heap.size) hW3;simp only[z0k] at hs2;rw[hs2,hW3];have hk1:=z05 (Q:=Fr (w.heap.size+1) (World.drewN _ nq).heap.size) (fun _ _=>rfl) (fun k hk=>⟨hk.1,hk.2.1⟩) _ _ (HT'.out.kids (Re.mk kx S ks lo hi n,A',c') (by simp));exact(hk1.put9 (.inl (by omega)) _ _ _ _ _ _ _ _ _).wide (by omega) (Nat.le_refl _)
       unfold put9 at hW3;rw[←hW3];obtain⟨l0,l1,l2,l3,l4,l5,l6,l7,l8,_⟩:=hbx;exact bodyPost_ret (v:= .agg #[.int .i64 kx,.int .u64 S.1.toNat,.int .u64 S.2.1.toNat,.int .u64 S.2.2.1.toNat,.int .u64 S.2.2.2.toNat,.slice A' ks.length c',.int .i64 lo,.int .i64 hi,.int .i64 n]) (by simp[results,Tryd.results34,go_sem,l0,l1,l2,l3,l4,l5,l6,l7,l8]) rfl (z1r hgw (by rfl) KK (HD.out _ hr))
      ·obtain⟨m,hm⟩:∃ m,m=(x::y::r).length:=⟨_,rfl⟩
       rw[←hm] at HT';rw[←hm];have hm2:2≤m:=by rw[hm];simp
       have m0:((m:Int)==0)=false:=by simp;omega
       have m1:((m:Int)==1)=false:=by simp;omega
       have HM:=Lib.hid hm;clear hm;go_wp2;obtain⟨W3,hW3,hbx,hr,hgw⟩:=endT (.int .i64 4) (.int .u64 0) (.int .u64 0) (.int .u64 0) (.int .u64 0) (.slice A m c) (.int .i64 0) (.int .i64 0) (.int .i64 0) hb.out HR'.out HT'.out.grown HT'.out.res
       have KK:Kids (Fr w.heap.size W3.heap.size) W3 A (mkRow ((x::y::r).map (·.1))):=by
        have hs2:=congrArg (fun W=>W.heap.size) hW3;simp only[z0k] at hs2;rw[hs2,hW3];have hk1:=HT'.out.whole1 4 none4 0 0 0;exact(hk1.put9 (.inl (by omega)) _ _ _ _ _ _ _ _ _).wide (by omega) (Nat.le_refl _)
       have hval:Value.agg #[.int .i64 4,.int .u64 0,.int .u64 0,.int .u64 0,.int .u64 0,.slice A m c,.int .i64 0,.int .i64 0,.int .i64 0]=valR (mkRow ((x::y::r).map (·.1))) A c:=by rw[HM.out];show _=Value.agg #[.int .i64 4,.int .u64 0,.int .u64 0,.int .u64 0,.int .u64 0,.slice A (r.map (·.1)).length.succ.succ c,.int .i64 0,.int .i64 0,.int .i64 0];rw[List.length_map];rfl
       unfold put9 at hW3;rw[←hW3];obtain⟨l0,l1,l2,l3,l4,l5,l6,l7,l8,_⟩:=hbx;exact bodyPost_ret (v:= .agg #[.int .i64 4,.int .u64 0,.int .u64 0,.int .u64 0,.int .u64 0,.slice A m c,.int .i64 0,.int .i64 0,.int .i64 0]) (by simp[results,Tryd.results34,go_sem,l0,l1,l2,l3,l4,l5,l6,l7,l8]) rfl (z1r hgw hval KK (HD.out _ hr))
     ·obtain rfl:y=41:=by rw[hy,h];rfl
      clear hs1 h hget hy;go_wp2;go_quiet (fail);have HR':=Lib.hid (HR.out.drews nq);have HT':=Lib.hid (HT.out.next (z0d b nq _));obtain⟨d0,d1,d2,d3,d4,d5,d6,d7,d8,_⟩:=HT'.out.res;obtain⟨e0,e1,e2,e3,e4,e5,e6,e7,e8⟩:=Box9.freed HT'.out.res
      rcases l with _ | ⟨x,_ | ⟨y,r⟩⟩
      ·go_wp2
       obtain⟨W3,hW3,hbx,hr,hgw⟩:=endT (.int .i64 0) (.int .u64 0) (.int .u64 0) (.int .u64 0) (.int .u64 0) (.slice none 0 0) (.int .i64 0) (.int .i64 0) (.int .i64 0) hb.out HR'.out HT'.out.grown HT'.out.res;unfold put9 at hW3;rw[←hW3];obtain⟨l0,l1,l2,l3,l4,l5,l6,l7,l8,_⟩:=hbx;exact bodyPost_ret (v:= .agg #[.int .i64 0,.int .u64 0,.int .u64 0,.int .u64 0,.int .u64 0,.slice none 0 0,.int .i64 0,.int .i64 0,.int .i64 0]) (by simp[results,Tryd.results34,go_sem,l0,l1,l2,l3,l4,l5,l6,l7,l8]) rfl (z1r hgw (by rfl) (Kids.leaf _ _ none _ _ _ _ _) (c:=0) (HD.out _ hr))
      ·obtain⟨gx,cap,hv,_,hgx⟩:=HT'.out.row.form (by simp)
       injection hv with hA _ hc
       subst hA hc;obtain⟨⟨kx,S,ks,lo,hi,n⟩,A',c'⟩:=x;obtain⟨x0,x1,x2,x3,x4,x5,x6,x7,x8⟩:=z2z (HT'.out.at_ (i:=0) rfl);clear hgx;go_wp2;obtain⟨W3,hW3,hbx,hr,hgw⟩:=endT (.int .i64 kx) (.int .u64 S.1.toNat) (.int .u64 S.2.1.toNat) (.int .u64 S.2.2.1.toNat) (.int .u64 S.2.2.2.toNat) (.slice A' ks.length c') (.int .i64 lo) (.int .i64 hi) (.int .i64 n) hb.out HR'.out HT'.out.grown HT'.out.res
       have KK:Kids (Fr w.heap.size W3.heap.size) W3 A' (.mk kx S ks lo hi n):=by
        have hs2:=congrArg (fun W=>W.heap.size) hW3;simp only[z0k] at hs2;rw[hs2,hW3];have hk1:=z05 (Q:=Fr (w.heap.size+1) (World.drewN _ nq).heap.size) (fun _ _=>rfl) (fun k hk=>⟨hk.1,hk.2.1⟩) _ _ (HT'.out.kids (Re.mk kx S ks lo hi n,A',c') (by simp));exact(hk1.put9 (.inl (by omega)) _ _ _ _ _ _ _ _ _).wide (by omega) (Nat.le_refl _)
       unfold put9 at hW3;rw[←hW3];obtain⟨l0,l1,l2,l3,l4,l5,l6,l7,l8,_⟩:=hbx;exact bodyPost_ret (v:= .agg #[.int .i64 kx,.int .u64 S.1.toNat,.int .u64 S.2.1.toNat,.int .u64 S.2.2.1.toNat,.int .u64 S.2.2.2.toNat,.slice A' ks.length c',.int .i64 lo,.int .i64 hi,.int .i64 n]) (by simp[results,Tryd.results34,go_sem,l0,l1,l2,l3,l4,l5,l6,l7,l8]) rfl (z1r hgw (by rfl) KK (HD.out _ hr))
      ·obtain⟨m,hm⟩:∃ m,m=(x::y::r).length:=⟨_,rfl⟩
       rw[←hm] at HT';rw[←hm];have hm2:2≤m:=by rw[hm];simp
       have m0:((m:Int)==0)=false:=by simp;omega
       have m1:((m:Int)==1)=false:=by simp;omega
       have HM:=Lib.hid hm;clear hm;go_wp2;obtain⟨W3,hW3,hbx,hr,hgw⟩:=endT (.int .i64 4) (.int .u64 0) (.int .u64 0) (.int .u64 0) (.int .u64 0) (.slice A m c) (.int .i64 0) (.int .i64 0) (.int .i64 0) hb.out HR'.out HT'.out.grown HT'.out.res
       have KK:Kids (Fr w.heap.size W3.heap.size) W3 A (mkRow ((x::y::r).map (·.1))):=by
        have hs2:=congrArg (fun W=>W.heap.size) hW3;simp only[z0k] at hs2;rw[hs2,hW3];have hk1:=HT'.out.whole1 4 none4 0 0 0;exact(hk1.put9 (.inl (by omega)) _ _ _ _ _ _ _ _ _).wide (by omega) (Nat.le_refl _)
       have hval:Value.agg #[.int .i64 4,.int .u64 0,.int .u64 0,.int .u64 0,.int .u64 0,.slice A m c,.int .i64 0,.int .i64 0,.int .i64 0]=valR (mkRow ((x::y::r).map (·.1))) A c:=by rw[HM.out];show _=Value.agg #[.int .i64 4,.int .u64 0,.int .u64 0,.int .u64 0,.int .u64 0,.slice A (r.map (·.1)).length.succ.succ c,.int .i64 0,.int .i64 0,.int .i64 0];rw[List.length_map];rfl
       unfold put9 at hW3;rw[←hW3];obtain⟨l0,l1,l2,l3,l4,l5,l6,l7,l8,_⟩:=hbx;exact bodyPost_ret (v:= .agg #[.int .i64 4,.int .u64 0,.int .u64 0,.int .u64 0,.int .u64 0,.slice A m c,.int .i64 0,.int .i64 0,.int .i64 0]) (by simp[results,Tryd.results34,go_sem,l0,l1,l2,l3,l4,l5,l6,l7,l8]) rfl (z1r hgw hval KK (HD.out _ hr))
    ·have hs1:stops s.data.toList k=false:=by unfold stops;rw[hget];simp;exact⟨fun h=>hst (.inl h),fun h=>hst (.inr h)⟩
     have e1:(y != 124)=true:=by simp;intro h;exact hst (.inl (u8_eq (by rw[←hy];exact h)))
     have e2:(y != 41)=true:=by simp;intro h;exact hst (.inr (u8_eq (by rw[←hy];exact h)))
     obtain⟨sa1,sa2⟩:=hsane k g a hgk;have hgd:=hgood k g a
     rcases hp:pc k g with ⟨q,er⟩ | ⟨x,q,g'⟩
     ·have her:=sa1 q er hp
      obtain⟨zz,hzz⟩:∃ zz:Nat,er=zz:=⟨er.toNat,by omega⟩;have hz18:zz=1∨zz=8:=by omega
      have KP:=Lib.hid (x0a hpc b hs1 a hgk hp hzz);have hqk:=hgd.1 q er hp;have HQ3:Hid (k≤q∧q≤s.size):=Lib.hid ⟨hqk.1,hqk.2.1⟩;have HX:Hid (R= .bad q (zz:Int)):=Lib.hid (by rw[←HG.out,z2b hs1 hp,hzz]);have HZ:=Lib.hid hz18;clear hs1 hp sa1 sa2 hgd her hzz hz18 hqk hst hget hy;go_wp2;go_quiet (fail);have HR':=Lib.hid (HR.out.drews nq);have HT':=Lib.hid (HT.out.next (z0d b nq _));go_wp2_with (first | (go_at_call 46;(with_reducible refine(KP.out _ HR'.out).mono ?_);go_must (rintro _ wv ⟨⟨⟨kx,S,ks,lo,hi,n⟩,A',c',he,hkid⟩,⟨g2,hr1⟩,hg1⟩;have he2:_=Ending.returned (.agg #[.int .i64 kx,.int .u64 S.1.toNat,.int .u64 S.2.1.toNat,.int .u64 S.2.2.1.toNat,.int .u64 S.2.2.2.toNat,.slice A' ks.length c',.int .i64 lo,.int .i64 hi,.int .i64 n]):=he;clear he;subst he2;have ha1:=z0f (b:=b) (z0b wv (.cells #[.int .i64 kx,.int .u64 S.1.toNat,.int .u64 S.2.1.toNat,.int .u64 S.2.2.1.toNat,.int .u64 S.2.2.2.toNat,.slice A' ks.length c',.int .i64 lo,.int .i64 hi,.int .i64 n] 27));have HR1:=Lib.hid (hr1.low (z0b wv (.cells #[.int .i64 kx,.int .u64 S.1.toNat,.int .u64 S.2.1.toNat,.int .u64 S.2.2.1.toNat,.int .u64 S.2.2.2.toNat,.slice A' ks.length c',.int .i64 lo,.int .i64 hi,.int .i64 n] 27)));have HT1:=Lib.hid ((HT'.out.next hg1).next ha1);have hlo:=HT'.out.hb;have hlb:=HT'.out.base;have HK1:=Lib.hid (HT'.out.fresh (hkid.grownF ha1 (.inl (by omega)) (Nat.le_refl _)) (by simp));clear ha1 hg1 hr1 hkid hlo hlb)) | (at_builtin;refine wpList_append_lies _ rfl (.tmp 47) (.tmp 51) 25 rfl (w.heap.size+1) 27 i0 (.agg #[.int .i64 0,.int .u64 0,.int .u64 0,.int .u64 0,.int .u64 0,.slice none 0 0,.int .i64 0,.int .i64 0,.int .i64 0]) 9 88 Tryd.underlying25 hi0 hz0 hz1 hz2 rfl (by decide) _ _ _ rfl HT1.out.row ⟨wv.heap.size,0,none⟩ 1 1 [.int .i64 kx,.int .u64 S.1.toNat,.int .u64 S.2.1.toNat,.int .u64 S.2.2.1.toNat,.int .u64 S.2.2.2.toNat,.slice A' ks.length c',.int .i64 lo,.int .i64 hi,.int .i64 n] rfl rfl (fun j u hu=>z0l wv 27 #[.int .i64 kx,.int .u64 S.1.toNat,.int .u64 S.2.1.toNat,.int .u64 S.2.2.1.toNat,.int .u64 S.2.2.2.toNat,.slice A' ks.length c',.int .i64 lo,.int .i64 hi,.int .i64 n] j u hu) (z5f (.mk kx S ks lo hi n) A' c') (by omega) (by unfold maxLen;omega) (by omega) HT1.out.base _ rfl ?_;intro g3 cap3 w3 hown' hgrow hat hlt))
      go_roundw
      case rel=>
       exact⟨q,g2,l++[(.mk kx S ks lo hi n,A',c')],zz,HQ3.out.2,by rw[List.length_append];have:=HQ3.out.1;simp;omega,HT1.out.rdr hgrow HR1.out,HT1.out.push (x:=(.mk kx S ks lo hi n,A',c')) HK1.out hown' hgrow hat (HT1.out.grow hgrow),.inr ⟨HZ.out,HX.out,by simp⟩⟩
      case measure=>
       have h3:=HT1.out.rdr hgrow HR1.out;have hz:=HZ.out;rw[z5i h3,z5i HR.out,if_neg (by omega),if_pos rfl];omega
     ·obtain⟨kx,S,ks,lo,hi,n⟩:=x
      have KP:=Lib.hid (at_ok hpc b hs1 a hgk hp);obtain⟨hq1,hq2,hq3⟩:=sa2 _ q g' hp;have HX:Hid (rowL pc s.data.toList q g' (l.map (·.1)++[.mk kx S ks lo hi n])=R):=Lib.hid (by rw[←HG.out,z27 hs1 hp ⟨hq1,by rw[HSZ.out];exact hq2⟩]);have HQ3:=Lib.hid (And.intro hq1 (And.intro hq2 hq3));clear hs1 hp sa1 sa2 hgd hq1 hq2 hq3 hst hget hy;go_wp2;go_quiet (fail);have HR':=Lib.hid (HR.out.drews nq);have HT':=Lib.hid (HT.out.next (z0d b nq _));go_wp2_with (first | (go_at_call 46;(with_reducible refine(KP.out _ HR'.out).mono ?_);go_must (rintro _ wv ⟨⟨A',c',he,hkid⟩,hr1,hg1⟩;have he2:_=Ending.returned (.agg #[.int .i64 kx,.int .u64 S.1.toNat,.int .u64 S.2.1.toNat,.int .u64 S.2.2.1.toNat,.int .u64 S.2.2.2.toNat,.slice A' ks.length c',.int .i64 lo,.int .i64 hi,.int .i64 n]):=he;clear he;subst he2;have ha1:=z0f (b:=b) (z0b wv (.cells #[.int .i64 kx,.int .u64 S.1.toNat,.int .u64 S.2.1.toNat,.int .u64 S.2.2.1.toNat,.int .u64 S.2.2.2.toNat,.slice A' ks.length c',.int .i64 lo,.int .i64 hi,.int .i64 n] 27));have HR1:=Lib.hid (hr1.low (z0b wv (.cells #[.int .i64 kx,.int .u64 S.1.toNat,.int .u64 S.2.1.toNat,.int .u64 S.2.2.1.toNat,.int .u64 S.2.2.2.toNat,.slice A' ks.length c',.int .i64 lo,.int .i64 hi,.int .i64 n] 27)));have HT1:=Lib.hid ((HT'.out.next hg1).next ha1);have hlo:=HT'.out.hb;have hlb:=HT'.out.base;have HK1:=Lib.hid (HT'.out.fresh (hkid.grownF ha1 (.inl (by omega)) (Nat.le_refl _)) (by simp));clear ha1 hg1 hr1 hkid hlo hlb)) | (at_builtin;refine wpList_append_lies _ rfl (.tmp 47) (.tmp 51) 25 rfl (w.heap.size+1) 27 i0 (.agg #[.int .i64 0,.int .u64 0,.int .u64 0,.int .u64 0,.int .u64 0,.slice none 0 0,.int .i64 0,.int .i64 0,.int .i64 0]) 9 88 Tryd.underlying25 hi0 hz0 hz1 hz2 rfl (by decide) _ _ _ rfl HT1.out.row ⟨wv.heap.size,0,none⟩ 1 1 [.int .i64 kx,.int .u64 S.1.toNat,.int .u64 S.2.1.toNat,.int .u64 S.2.2.1.toNat,.int .u64 S.2.2.2.toNat,.slice A' ks.length c',.int .i64 lo,.int .i64 hi,.int .i64 n] rfl rfl (fun j u hu=>z0l wv 27 #[.int .i64 kx,.int .u64 S.1.toNat,.int .u64 S.2.1.toNat,.int .u64 S.2.2.1.toNat,.int .u64 S.2.2.2.toNat,.slice A' ks.length c',.int .i64 lo,.int .i64 hi,.int .i64 n] j u hu) (z5f (.mk kx S ks lo hi n) A' c') (by omega) (by unfold maxLen;omega) (by omega) HT1.out.base _ rfl ?_;intro g3 cap3 w3 hown' hgrow hat hlt))
      go_roundw
      case rel=>
       refine⟨q,g',l++[(.mk kx S ks lo hi n,A',c')],0,HQ3.out.2.1,by rw[List.length_append];have:=HQ3.out.1;simp;omega,HT1.out.rdr hgrow HR1.out,HT1.out.push (x:=(.mk kx S ks lo hi n,A',c')) HK1.out hown' hgrow hat (HT1.out.grow hgrow),.inl ⟨rfl,HQ3.out.2.2,by rw[List.length_append];have:=HQ3.out.1;simp;omega,?_⟩⟩;rw[List.map_append];exact HX.out
      case measure=>
       have h3:=HT1.out.rdr hgrow HR1.out;rw[z5i h3,z5i HR.out,if_pos rfl,if_pos rfl];have:=HQ3.out;omega
   ·have b1:decide ((k:Int)<(s.size:Int))=false:=by simp;omega
    have b2:decide (k<s.size)=false:=by simp;omega
    have hs1:stops s.data.toList k=true:=by unfold stops;rw[z3h s k a]
    have HD:Hid (∀ W,Rdr b W s k g 0→DoneD b s Q (mkRow (l.map (·.1))) W):=Lib.hid (z4j (by rw[HQ.out,←HG.out,z2m hs1]) hgk);clear hs1;go_wp2;go_quiet (fail);have HR':=Lib.hid (HR.out.drews nq);have HT':=Lib.hid (HT.out.next (z0d b nq _));obtain⟨d0,d1,d2,d3,d4,d5,d6,d7,d8,_⟩:=HT'.out.res;obtain⟨e0,e1,e2,e3,e4,e5,e6,e7,e8⟩:=Box9.freed HT'.out.res
    rcases l with _ | ⟨x,_ | ⟨y,r⟩⟩
    ·go_wp2
     obtain⟨W3,hW3,hbx,hr,hgw⟩:=endT (.int .i64 0) (.int .u64 0) (.int .u64 0) (.int .u64 0) (.int .u64 0) (.slice none 0 0) (.int .i64 0) (.int .i64 0) (.int .i64 0) hb.out HR'.out HT'.out.grown HT'.out.res;unfold put9 at hW3;rw[←hW3];obtain⟨l0,l1,l2,l3,l4,l5,l6,l7,l8,_⟩:=hbx;exact bodyPost_ret (v:= .agg #[.int .i64 0,.int .u64 0,.int .u64 0,.int .u64 0,.int .u64 0,.slice none 0 0,.int .i64 0,.int .i64 0,.int .i64 0]) (by simp[results,Tryd.results34,go_sem,l0,l1,l2,l3,l4,l5,l6,l7,l8]) rfl (z1r hgw (by rfl) (Kids.leaf _ _ none _ _ _ _ _) (c:=0) (HD.out _ hr))
    ·obtain⟨gx,cap,hv,_,hgx⟩:=HT'.out.row.form (by simp)
     injection hv with hA _ hc
     subst hA hc;obtain⟨⟨kx,S,ks,lo,hi,n⟩,A',c'⟩:=x;obtain⟨x0,x1,x2,x3,x4,x5,x6,x7,x8⟩:=z2z (HT'.out.at_ (i:=0) rfl);clear hgx;go_wp2;obtain⟨W3,hW3,hbx,hr,hgw⟩:=endT (.int .i64 kx) (.int .u64 S.1.toNat) (.int .u64 S.2.1.toNat) (.int .u64 S.2.2.1.toNat) (.int .u64 S.2.2.2.toNat) (.slice A' ks.length c') (.int .i64 lo) (.int .i64 hi) (.int .i64 n) hb.out HR'.out HT'.out.grown HT'.out.res
     have KK:Kids (Fr w.heap.size W3.heap.size) W3 A' (.mk kx S ks lo hi n):=by
      have hs2:=congrArg (fun W=>W.heap.size) hW3;simp only[z0k] at hs2;rw[hs2,hW3];have hk1:=z05 (Q:=Fr (w.heap.size+1) (World.drewN _ nq).heap.size) (fun _ _=>rfl) (fun k hk=>⟨hk.1,hk.2.1⟩) _ _ (HT'.out.kids (Re.mk kx S ks lo hi n,A',c') (by simp));exact(hk1.put9 (.inl (by omega)) _ _ _ _ _ _ _ _ _).wide (by omega) (Nat.le_refl _)
     unfold put9 at hW3;rw[←hW3];obtain⟨l0,l1,l2,l3,l4,l5,l6,l7,l8,_⟩:=hbx;exact bodyPost_ret (v:= .agg #[.int .i64 kx,.int .u64 S.1.toNat,.int .u64 S.2.1.toNat,.int .u64 S.2.2.1.toNat,.int .u64 S.2.2.2.toNat,.slice A' ks.length c',.int .i64 lo,.int .i64 hi,.int .i64 n]) (by simp[results,Tryd.results34,go_sem,l0,l1,l2,l3,l4,l5,l6,l7,l8]) rfl (z1r hgw (by rfl) KK (HD.out _ hr))
    ·obtain⟨m,hm⟩:∃ m,m=(x::y::r).length:=⟨_,rfl⟩
     rw[←hm] at HT';rw[←hm];have hm2:2≤m:=by rw[hm];simp
     have m0:((m:Int)==0)=false:=by simp;omega
     have m1:((m:Int)==1)=false:=by simp;omega
     have HM:=Lib.hid hm;clear hm;go_wp2;obtain⟨W3,hW3,hbx,hr,hgw⟩:=endT (.int .i64 4) (.int .u64 0) (.int .u64 0) (.int .u64 0) (.int .u64 0) (.slice A m c) (.int .i64 0) (.int .i64 0) (.int .i64 0) hb.out HR'.out HT'.out.grown HT'.out.res
     have KK:Kids (Fr w.heap.size W3.heap.size) W3 A (mkRow ((x::y::r).map (·.1))):=by
      have hs2:=congrArg (fun W=>W.heap.size) hW3;simp only[z0k] at hs2;rw[hs2,hW3];have hk1:=HT'.out.whole1 4 none4 0 0 0;exact(hk1.put9 (.inl (by omega)) _ _ _ _ _ _ _ _ _).wide (by omega) (Nat.le_refl _)
     have hval:Value.agg #[.int .i64 4,.int .u64 0,.int .u64 0,.int .u64 0,.int .u64 0,.slice A m c,.int .i64 0,.int .i64 0,.int .i64 0]=valR (mkRow ((x::y::r).map (·.1))) A c:=by rw[HM.out];show _=Value.agg #[.int .i64 4,.int .u64 0,.int .u64 0,.int .u64 0,.int .u64 0,.slice A (r.map (·.1)).length.succ.succ c,.int .i64 0,.int .i64 0,.int .i64 0];rw[List.length_map];rfl
     unfold put9 at hW3;rw[←hW3];obtain⟨l0,l1,l2,l3,l4,l5,l6,l7,l8,_⟩:=hbx;exact bodyPost_ret (v:= .agg #[.int .i64 4,.int .u64 0,.int .u64 0,.int .u64 0,.int .u64 0,.slice A m c,.int .i64 0,.int .i64 0,.int .i64 0]) (by simp[results,Tryd.results34,go_sem,l0,l1,l2,l3,l4,l5,l6,l7,l8]) rfl (z1r hgw hval KK (HD.out _ hr))
  ·have HD:Hid (∀ W,Rdr b W s k g o→DoneD b s Q (mkRow (l.map (·.1))) W):=Lib.hid (z5y _ (by rw[HQ.out,hbad]) ho)
   have b0:((o:Int)==0)=false:=by simp;omega
   have b0':(o==0)=false:=by simp;omega
   clear ho hbad;go_wp2;go_quiet (fail);have HR':=Lib.hid (HR.out.drews nq);have HT':=Lib.hid (HT.out.next (z0d b nq _));obtain⟨d0,d1,d2,d3,d4,d5,d6,d7,d8,_⟩:=HT'.out.res;obtain⟨e0,e1,e2,e3,e4,e5,e6,e7,e8⟩:=Box9.freed HT'.out.res
   rcases l with _ | ⟨x,_ | ⟨y,r⟩⟩
   ·go_wp2
    obtain⟨W3,hW3,hbx,hr,hgw⟩:=endT (.int .i64 0) (.int .u64 0) (.int .u64 0) (.int .u64 0) (.int .u64 0) (.slice none 0 0) (.int .i64 0) (.int .i64 0) (.int .i64 0) hb.out HR'.out HT'.out.grown HT'.out.res;unfold put9 at hW3;rw[←hW3];obtain⟨l0,l1,l2,l3,l4,l5,l6,l7,l8,_⟩:=hbx;exact bodyPost_ret (v:= .agg #[.int .i64 0,.int .u64 0,.int .u64 0,.int .u64 0,.int .u64 0,.slice none 0 0,.int .i64 0,.int .i64 0,.int .i64 0]) (by simp[results,Tryd.results34,go_sem,l0,l1,l2,l3,l4,l5,l6,l7,l8]) rfl (z1r hgw (by rfl) (Kids.leaf _ _ none _ _ _ _ _) (c:=0) (HD.out _ hr))
   ·obtain⟨gx,cap,hv,_,hgx⟩:=HT'.out.row.form (by simp)
    injection hv with hA _ hc
    subst hA hc;obtain⟨⟨kx,S,ks,lo,hi,n⟩,A',c'⟩:=x;obtain⟨x0,x1,x2,x3,x4,x5,x6,x7,x8⟩:=z2z (HT'.out.at_ (i:=0) rfl);clear hgx;go_wp2;obtain⟨W3,hW3,hbx,hr,hgw⟩:=endT (.int .i64 kx) (.int .u64 S.1.toNat) (.int .u64 S.2.1.toNat) (.int .u64 S.2.2.1.toNat) (.int .u64 S.2.2.2.toNat) (.slice A' ks.length c') (.int .i64 lo) (.int .i64 hi) (.int .i64 n) hb.out HR'.out HT'.out.grown HT'.out.res
    have KK:Kids (Fr w.heap.size W3.heap.size) W3 A' (.mk kx S ks lo hi n):=by
     have hs2:=congrArg (fun W=>W.heap.size) hW3;simp only[z0k] at hs2;rw[hs2,hW3];have hk1:=z05 (Q:=Fr (w.heap.size+1) (World.drewN _ nq).heap.size) (fun _ _=>rfl) (fun k hk=>⟨hk.1,hk.2.1⟩) _ _ (HT'.out.kids (Re.mk kx S ks lo hi n,A',c') (by simp));exact(hk1.put9 (.inl (by omega)) _ _ _ _ _ _ _ _ _).wide (by omega) (Nat.le_refl _)
    unfold put9 at hW3;rw[←hW3];obtain⟨l0,l1,l2,l3,l4,l5,l6,l7,l8,_⟩:=hbx;exact bodyPost_ret (v:= .agg #[.int .i64 kx,.int .u64 S.1.toNat,.int .u64 S.2.1.toNat,.int .u64 S.2.2.1.toNat,.int .u64 S.2.2.2.toNat,.slice A' ks.length c',.int .i64 lo,.int .i64 hi,.int .i64 n]) (by simp[results,Tryd.results34,go_sem,l0,l1,l2,l3,l4,l5,l6,l7,l8]) rfl (z1r hgw (by rfl) KK (HD.out _ hr))
   ·obtain⟨m,hm⟩:∃ m,m=(x::y::r).length:=⟨_,rfl⟩
    rw[←hm] at HT';rw[←hm];have hm2:2≤m:=by rw[hm];simp
    have m0:((m:Int)==0)=false:=by simp;omega
    have m1:((m:Int)==1)=false:=by simp;omega
    have HM:=Lib.hid hm;clear hm;go_wp2;obtain⟨W3,hW3,hbx,hr,hgw⟩:=endT (.int .i64 4) (.int .u64 0) (.int .u64 0) (.int .u64 0) (.int .u64 0) (.slice A m c) (.int .i64 0) (.int .i64 0) (.int .i64 0) hb.out HR'.out HT'.out.grown HT'.out.res
    have KK:Kids (Fr w.heap.size W3.heap.size) W3 A (mkRow ((x::y::r).map (·.1))):=by
     have hs2:=congrArg (fun W=>W.heap.size) hW3;simp only[z0k] at hs2;rw[hs2,hW3];have hk1:=HT'.out.whole1 4 none4 0 0 0;exact(hk1.put9 (.inl (by omega)) _ _ _ _ _ _ _ _ _).wide (by omega) (Nat.le_refl _)
    have hval:Value.agg #[.int .i64 4,.int .u64 0,.int .u64 0,.int .u64 0,.int .u64 0,.slice A m c,.int .i64 0,.int .i64 0,.int .i64 0]=valR (mkRow ((x::y::r).map (·.1))) A c:=by rw[HM.out];show _=Value.agg #[.int .i64 4,.int .u64 0,.int .u64 0,.int .u64 0,.int .u64 0,.slice A (r.map (·.1)).length.succ.succ c,.int .i64 0,.int .i64 0,.int .i64 0];rw[List.length_map];rfl
    unfold put9 at hW3;rw[←hW3];obtain⟨l0,l1,l2,l3,l4,l5,l6,l7,l8,_⟩:=hbx;exact bodyPost_ret (v:= .agg #[.int .i64 4,.int .u64 0,.int .u64 0,.int .u64 0,.int .u64 0,.slice A m c,.int .i64 0,.int .i64 0,.int .i64 0]) (by simp[results,Tryd.results34,go_sem,l0,l1,l2,l3,l4,l5,l6,l7,l8]) rfl (z1r hgw hval KK (HD.out _ hr))
def RowU (rw_:Rd) (b:Nat) (s:ByteArray) (k g:Nat) (d:Int):Prop:=∀ w,Rdr b w s k g 0→Calls Tryd.prog 34 #[.pointer (some ⟨b,0,none⟩),.int .i64 d] w fun e w'=>∃ x A c k' g' o',e= .returned (valR x A c)∧Kids (Fr w.heap.size w'.heap.size) w' A x∧Rdr b w' s k' g' o'∧w.grownBy w' (some b)∧(k≤k'∧k'≤s.size)∧((o'=0∧g'≤k'∧rw_ k g= .ok x k' g')∨((o'=1∨o'=8)∧rw_ k g= .bad k' (o':Int)))
theorem row_u {s:ByteArray} {d:Nat} {rw_:Rd} (h:RdED 34 s d rw_) (hsane:SaneE s rw_) (hgood:GoodE s.data.toList rw_) (b k g:Nat) (hk:k≤s.size) (hg:g≤k):RowU rw_ b s k g d:=fun w hr=>by
 have h1:=h b w k g hr hk hg;obtain⟨sa1,sa2⟩:=hsane k g hk hg;have hgd:=hgood k g hk
 rcases hp:rw_ k g with ⟨q,er⟩ | ⟨x,q,g'⟩
 ·rw[hp] at h1
  obtain⟨q1,q2,_⟩:=hgd.1 q er hp;refine h1.mono fun e w' ⟨h1,x,A,c,h2,h3,g',z,h4,h5,h6⟩=>⟨x,A,c,q,g',z,h2,h3,h6,h1,⟨q1,q2⟩,.inr ⟨h5,by rw[h4]⟩⟩
 ·rw[hp] at h1
  obtain⟨q1,q2,q3⟩:=sa2 x q g' hp;exact h1.mono fun e w' ⟨h1,y,A,c,h2,h3,h4,h5,h6⟩=>⟨y,A,c,q,g',0,h2,h3,h6,h1,⟨q1,q2⟩,.inl ⟨rfl,h5,by rw[h4]⟩⟩
def LoopE (rw_:Rd) (b:Nat) (w:World) (s:ByteArray) (R:Ro (List Re)) (v:Value) (wr:World):Prop:=
 ∃ (k g:Nat) (l:List Rv) (o:Nat),k≤s.size∧l.length≤k+1∧Rdr b wr s k g o∧Trees b w wr v l∧l≠[]∧((o=0∧g≤k∧nextA rw_ s.data.toList k g (l.map (·.1))=R)∨((o=1∨o=8)∧R= .bad k (o:Int)))
theorem Trees.one {b:Nat} {w W wv:World} (t:Trees b w W (.slice none 0 0) []) (hg:W.grownBy wv (some b)) {kx:Int} {S:S4} {ks:List Re} {lo hi n:Int} {A':Option Addr} {c':Nat} (hk:Kids (Fr W.heap.size wv.heap.size) wv A' (.mk kx S ks lo hi n)):
  Trees b w (wv.alloc (.cells #[.int .i64 kx,.int .u64 S.1.toNat,.int .u64 S.2.1.toNat,.int .u64 S.2.2.1.toNat,.int .u64 S.2.2.2.toNat,.slice A' ks.length c',.int .i64 lo,.int .i64 hi,.int .i64 n] 27)) (.slice (some ⟨wv.heap.size,0,none⟩) 1 1) [(.mk kx S ks lo hi n,A',c')]:=by
 have t1:=t.next hg
 have ha:=z0f (b:=b) (z0b wv (.cells #[.int .i64 kx,.int .u64 S.1.toNat,.int .u64 S.2.1.toNat,.int .u64 S.2.2.1.toNat,.int .u64 S.2.2.2.toNat,.slice A' ks.length c',.int .i64 lo,.int .i64 hi,.int .i64 n] 27));have t2:=t1.next ha
 refine⟨t2.hb,t2.base,t2.grown,t2.res,?_,fun x hx=>?_⟩
 ·exact⟨rfl,.inr ⟨wv.heap.size,1,#[.int .i64 kx,.int .u64 S.1.toNat,.int .u64 S.2.1.toNat,.int .u64 S.2.2.1.toNat,.int .u64 S.2.2.2.toNat,.slice A' ks.length c',.int .i64 lo,.int .i64 hi,.int .i64 n],rfl,t1.base,heap_alloc_new wv _,Nat.le_refl _,by unfold maxLen;omega,rfl,rfl⟩⟩
 ·rw[List.mem_singleton.1 hx]
  refine z05 (fun a hc=>World.cell?_of_block (Below.heap_alloc wv _ a.block hc.2)) (fun k hc=>?_) _ _ hk;refine⟨Nat.le_trans t.base hc.1,by have:=hc.2;simp;omega,fun e=>?_⟩;have e2:some wv.heap.size=some k:=e;injection e2 with e2
  have:=hc.2;omega
theorem y8m (s:ByteArray) (d:Nat) (rw_:Rd) (hs:s.size≤200) (hrw:RdED 34 s d rw_) (hsane:SaneE s rw_) (hgood:GoodE s.data.toList rw_):RdED 25 s d (altOf rw_ s.data.toList):=by
 intro b w k0 g0 h hk0 hgk0;obtain⟨Q,hQ⟩:∃ Q,Q=altOf rw_ s.data.toList k0 g0:=⟨_,rfl⟩;rw[←hQ];unfold altOf at hQ;obtain⟨R,hR⟩:∃ R,R=altL rw_ s.data.toList k0 g0 []:=⟨_,rfl⟩;rw[←hR] at hQ;have HQ:=Lib.hid hQ;have HR0:=Lib.hid hR.symm;have hb:=Lib.hid h.lt;have HR:=Lib.hid (h.low (z0b w (.cells #[.int .i64 0,.int .u64 0,.int .u64 0,.int .u64 0,.int .u64 0,.slice none 0 0,.int .i64 0,.int .i64 0,.int .i64 0] 27)));have HT:=Lib.hid (Trees.start h.lt);have hsz:s.data.toList.length=s.size:=rfl;have HSZ:=Lib.hid hsz;have HU:Hid (∀ k g,k≤s.size→g≤k→RowU rw_ b s k g d):=Lib.hid fun k g hk hg=>row_u hrw hsane hgood b k g hk hg
 have KP:=Lib.hid (HU.out k0 g0 hk0 hgk0);unfold RowU at KP;obtain⟨i0,hi0,hz0,hz1,hz2⟩:=info_parts x0q;clear h hQ hR hsz;go_enter Tryd.func25,Tryd.ntmps25;go_wp2_with (go_at_call 34;(with_reducible refine(KP.out _ HR.out).mono ?_);go_must (rintro _ wv ⟨⟨kx,S,ks,lo,hi,n⟩,A',c',k2,g2,o2,he,hkid,hr1,hg1,hks,hway⟩;have he2:_=Ending.returned (.agg #[.int .i64 kx,.int .u64 S.1.toNat,.int .u64 S.2.1.toNat,.int .u64 S.2.2.1.toNat,.int .u64 S.2.2.2.toNat,.slice A' ks.length c',.int .i64 lo,.int .i64 hi,.int .i64 n]):=he;clear he;subst he2;have ha1:=z0f (b:=b) (z0b wv (.cells #[.int .i64 kx,.int .u64 S.1.toNat,.int .u64 S.2.1.toNat,.int .u64 S.2.2.1.toNat,.int .u64 S.2.2.2.toNat,.slice A' ks.length c',.int .i64 lo,.int .i64 hi,.int .i64 n] 27));have HR1:=Lib.hid (hr1.low (z0b wv (.cells #[.int .i64 kx,.int .u64 S.1.toNat,.int .u64 S.2.1.toNat,.int .u64 S.2.2.1.toNat,.int .u64 S.2.2.2.toNat,.slice A' ks.length c',.int .i64 lo,.int .i64 hi,.int .i64 n] 27)));have HW:=Lib.hid hway;have HKS:=Lib.hid hks;have HT1:=Lib.hid (HT.out.one hg1 hkid (c':=c'));clear ha1 hg1 hr1 hkid hway hks))
 go_loopw [5] (fun v wr=>LoopE rw_ b w s R v wr) (fun _ wr=>gasD b s.size wr)
 case atStart=>
  have hks:=HKS.out;refine⟨k2,g2,[(.mk kx S ks lo hi n,A',c')],o2,hks.2,by simp,HR1.out,HT1.out,by simp,?_⟩
  rcases HW.out with ⟨h1,h2,h3⟩ | ⟨h1,h2⟩
  ·exact .inl ⟨h1,h2,by have:=y2g (s:=s.data.toList) (acc:=[]) h3 hks.1;rw[HR0.out] at this;exact this⟩
  ·exact .inr ⟨h1,by rw[←HR0.out];exact z3f h2⟩
 case round=>
  clear HR HT HR1 HT1 HW HKS KP;obtain⟨k,g,l,o,hk,hlk,hr,ht,hl0,hway⟩:=hrel;obtain⟨A,c,rfl⟩:=z1k ht.row;have HR':=Lib.hid hr;have HT':=Lib.hid ht;have HRS:=Lib.hid hr;obtain⟨c0,c1,_,c3,f1,_,_⟩:=hr;clear ht;have hmap:l.map (·.1)≠[]:=by simpa using hl0
  rcases hway with ⟨rfl,hgk,hg⟩ | ⟨ho,hbad⟩
  ·by_cases h124:s.data.toList[k]?=some 124
   ·have hlt:=z0r h124
    have KS:=Lib.hid (is_t 124 124 rfl b s k g 0 (by omega) true (z5u h124));have hk1:k+1≤s.size:=by have:=HSZ.out;omega
    have KP:=Lib.hid (HU.out (k+1) g hk1 (by omega));unfold RowU at KP;have HA:Hid (altL rw_ s.data.toList (k+1) g (l.map (·.1))=R):=Lib.hid (by rw[←hg];unfold nextA;rw[if_neg hmap,if_pos h124]);obtain⟨m,hm⟩:∃ m,m=l.length:=⟨_,rfl⟩;have HM:=Lib.hid hm;have HLN:Hid (l.length≤1000):=Lib.hid (by omega);have HLK:Hid (l.length≤k+1):=Lib.hid hlk;have hkb:(k:Int)≤200:=by omega
    rw[←hm] at HT';rw[←hm];clear hg h124 hlt hmap hm hlk;go_wp2_with (first | (go_at_call 35;(with_reducible refine(KS.out _ HR'.out).mono ?_);go_must (rintro _ wz ⟨he,hr1,hg1⟩;subst he;have ht1:=HT'.out.next hg1;clear HR' HT';have HR':=Lib.hid hr1;have HT':=Lib.hid ht1;obtain⟨c0,c1,c2,c3,f1,f2,f3⟩:=hr1;obtain⟨d0,d1,d2,d3,d4,d5,d6,d7,d8,_⟩:=ht1.res;obtain⟨e0,e1,e2,e3,e4,e5,e6,e7,e8⟩:=Box9.freed ht1.res;clear hg1)) | (go_at_call 34;(with_reducible refine(KP.out _ (Rdr.incz HR'.out _ ?_)).mono ?_);(omega);go_must (rintro _ wv ⟨⟨kx,S,ks,lo,hi,n⟩,A',c',k2,g2,o2,he,hkid,hr1,hg1,hks,hway⟩;have he2:_=Ending.returned (.agg #[.int .i64 kx,.int .u64 S.1.toNat,.int .u64 S.2.1.toNat,.int .u64 S.2.2.1.toNat,.int .u64 S.2.2.2.toNat,.slice A' ks.length c',.int .i64 lo,.int .i64 hi,.int .i64 n]):=he;clear he;subst he2;have ha1:=z0f (b:=b) (z0b wv (.cells #[.int .i64 kx,.int .u64 S.1.toNat,.int .u64 S.2.1.toNat,.int .u64 S.2.2.1.toNat,.int .u64 S.2.2.2.toNat,.slice A' ks.length c',.int .i64 lo,.int .i64 hi,.int .i64 n] 27));have HR1:=Lib.hid (hr1.low (z0b wv (.cells #[.int .i64 kx,.int .u64 S.1.toNat,.int .u64 S.2.1.toNat,.int .u64 S.2.2.1.toNat,.int .u64 S.2.2.2.toNat,.slice A' ks.length c',.int .i64 lo,.int .i64 hi,.int .i64 n] 27)));have HW:=Lib.hid hway;have HKS:=Lib.hid hks;have HTS:=(HT'.out.next (z0h b 1 _ (.int .i64 ((k:Int)+1))));have HT1:=Lib.hid ((HTS.next hg1).next ha1);have hlo:=HT'.out.hb;have hlb:=HT'.out.base;have HK1:=Lib.hid (HTS.fresh (hkid.grownF ha1 (.inl (by rw[z3m];omega)) (Nat.le_refl _)) (by simp));clear HTS ha1 hg1 hr1 hkid hlo hlb hway hks)) | (at_builtin;refine wpList_append_lies _ rfl (.tmp 19) (.tmp 23) 25 rfl (w.heap.size+1) 27 i0 (.agg #[.int .i64 0,.int .u64 0,.int .u64 0,.int .u64 0,.int .u64 0,.slice none 0 0,.int .i64 0,.int .i64 0,.int .i64 0]) 9 88 Tryd.underlying25 hi0 hz0 hz1 hz2 rfl (by decide) _ _ _ rfl HT1.out.row ⟨wv.heap.size,0,none⟩ 1 1 [.int .i64 kx,.int .u64 S.1.toNat,.int .u64 S.2.1.toNat,.int .u64 S.2.2.1.toNat,.int .u64 S.2.2.2.toNat,.slice A' ks.length c',.int .i64 lo,.int .i64 hi,.int .i64 n] rfl rfl (fun j u hu=>z0l wv 27 #[.int .i64 kx,.int .u64 S.1.toNat,.int .u64 S.2.1.toNat,.int .u64 S.2.2.1.toNat,.int .u64 S.2.2.2.toNat,.slice A' ks.length c',.int .i64 lo,.int .i64 hi,.int .i64 n] j u hu) (z5f (.mk kx S ks lo hi n) A' c') (by omega) (by have:=HLN.out;unfold maxLen;omega) (by have:=HLN.out;omega) HT1.out.base _ rfl ?_;intro g3 cap3 w3 hown' hgrow hat hlt))
    go_roundw
    case rel=>
     have hks:=HKS.out;have hm':=HM.out;subst hm';refine⟨k2,g2,l++[(.mk kx S ks lo hi n,A',c')],o2,hks.2,by rw[List.length_append];have:=HLK.out;simp;omega,HT1.out.rdr hgrow HR1.out,HT1.out.push (x:=(.mk kx S ks lo hi n,A',c')) HK1.out hown' hgrow hat (HT1.out.grow hgrow),by simp,?_⟩
     rcases HW.out with ⟨h1,h2,h3⟩ | ⟨h1,h2⟩
     ·refine .inl ⟨h1,h2,?_⟩
      rw[List.map_append,←HA.out];exact y2g h3 hks.1
     ·exact .inr ⟨h1,by rw[←HA.out];exact z3f h2⟩
    case measure=>
     have h3:=HT1.out.rdr hgrow HR1.out;have hks:=HKS.out;rw[z5i h3,z5i HRS.out,if_pos rfl]
     split <;> omega
   ·have KS:=Lib.hid (is_t 124 124 rfl b s k g 0 (by omega) false (is_no h124))
    have HD:Hid (∀ W,Rdr b W s k g 0→DoneD b s Q (mkAlt (l.map (·.1))) W):=Lib.hid (z4j (by rw[HQ.out,←hg];unfold nextA;rw[if_neg hmap,if_neg h124]) hgk);clear hg h124 hmap
    rcases l with _ | ⟨x,_ | ⟨y,r⟩⟩
    ·exact absurd rfl hl0
    ·obtain⟨gx,cap,hv,_,hgx⟩:=HT'.out.row.form (by simp)
     injection hv with hA _ hc
     subst hA hc;obtain⟨⟨kx,S,ks,lo,hi,n⟩,A',c'⟩:=x;obtain⟨x0,x1,x2,x3,x4,x5,x6,x7,x8⟩:=z2z (HT'.out.at_ (i:=0) rfl);clear hgx;go_wp2_with (go_at_call 35;(with_reducible refine(KS.out _ HR'.out).mono ?_);go_must (rintro _ wz ⟨he,hr1,hg1⟩;subst he;have ht1:=HT'.out.next hg1;clear HR' HT';have HR':=Lib.hid hr1;have HT':=Lib.hid ht1;obtain⟨c0,c1,c2,c3,f1,f2,f3⟩:=hr1;obtain⟨x0,x1,x2,x3,x4,x5,x6,x7,x8⟩:=z2z (ht1.at_ (i:=0) rfl);obtain⟨d0,d1,d2,d3,d4,d5,d6,d7,d8,_⟩:=ht1.res;obtain⟨e0,e1,e2,e3,e4,e5,e6,e7,e8⟩:=Box9.freed ht1.res;clear hg1));obtain⟨W3,hW3,hbx,hr,hgw⟩:=endT (.int .i64 kx) (.int .u64 S.1.toNat) (.int .u64 S.2.1.toNat) (.int .u64 S.2.2.1.toNat) (.int .u64 S.2.2.2.toNat) (.slice A' ks.length c') (.int .i64 lo) (.int .i64 hi) (.int .i64 n) hb.out HR'.out HT'.out.grown HT'.out.res
     have KK:Kids (Fr w.heap.size W3.heap.size) W3 A' (.mk kx S ks lo hi n):=by
      have hs2:=congrArg (fun W=>W.heap.size) hW3;simp only[z0k] at hs2;rw[hs2,hW3];have hk1:=z05 (Q:=Fr (w.heap.size+1) wz.heap.size) (fun _ _=>rfl) (fun k hk=>⟨hk.1,hk.2.1⟩) _ _ (HT'.out.kids (Re.mk kx S ks lo hi n,A',c') (by simp));exact(hk1.put9 (.inl (by omega)) _ _ _ _ _ _ _ _ _).wide (by omega) (Nat.le_refl _)
     unfold put9 at hW3;rw[←hW3];obtain⟨l0,l1,l2,l3,l4,l5,l6,l7,l8,_⟩:=hbx;exact bodyPost_ret (v:= .agg #[.int .i64 kx,.int .u64 S.1.toNat,.int .u64 S.2.1.toNat,.int .u64 S.2.2.1.toNat,.int .u64 S.2.2.2.toNat,.slice A' ks.length c',.int .i64 lo,.int .i64 hi,.int .i64 n]) (by simp[results,Tryd.results25,go_sem,l0,l1,l2,l3,l4,l5,l6,l7,l8]) rfl (z1r hgw (by rfl) KK (HD.out _ hr))
    ·obtain⟨m,hm⟩:∃ m,m=(x::y::r).length:=⟨_,rfl⟩
     rw[←hm] at HT';rw[←hm];have hm2:2≤m:=by rw[hm];simp
     have m0:((m:Int)==0)=false:=by simp;omega
     have m1:((m:Int)==1)=false:=by simp;omega
     have HM:=Lib.hid hm;clear hm;go_wp2_with (go_at_call 35;(with_reducible refine(KS.out _ HR'.out).mono ?_);go_must (rintro _ wz ⟨he,hr1,hg1⟩;subst he;have ht1:=HT'.out.next hg1;clear HR' HT';have HR':=Lib.hid hr1;have HT':=Lib.hid ht1;obtain⟨c0,c1,c2,c3,f1,f2,f3⟩:=hr1;obtain⟨d0,d1,d2,d3,d4,d5,d6,d7,d8,_⟩:=ht1.res;obtain⟨e0,e1,e2,e3,e4,e5,e6,e7,e8⟩:=Box9.freed ht1.res;clear hg1));obtain⟨W3,hW3,hbx,hr,hgw⟩:=endT (.int .i64 5) (.int .u64 0) (.int .u64 0) (.int .u64 0) (.int .u64 0) (.slice A m c) (.int .i64 0) (.int .i64 0) (.int .i64 0) hb.out HR'.out HT'.out.grown HT'.out.res
     have KK:Kids (Fr w.heap.size W3.heap.size) W3 A (mkAlt ((x::y::r).map (·.1))):=by
      have hs2:=congrArg (fun W=>W.heap.size) hW3;simp only[z0k] at hs2;rw[hs2,hW3];have hk1:=HT'.out.whole1 5 none4 0 0 0;exact(hk1.put9 (.inl (by omega)) _ _ _ _ _ _ _ _ _).wide (by omega) (Nat.le_refl _)
     have hval:Value.agg #[.int .i64 5,.int .u64 0,.int .u64 0,.int .u64 0,.int .u64 0,.slice A m c,.int .i64 0,.int .i64 0,.int .i64 0]=valR (mkAlt ((x::y::r).map (·.1))) A c:=by rw[HM.out];show _=Value.agg #[.int .i64 5,.int .u64 0,.int .u64 0,.int .u64 0,.int .u64 0,.slice A (r.map (·.1)).length.succ.succ c,.int .i64 0,.int .i64 0,.int .i64 0];rw[List.length_map];rfl
     unfold put9 at hW3;rw[←hW3];obtain⟨l0,l1,l2,l3,l4,l5,l6,l7,l8,_⟩:=hbx;exact bodyPost_ret (v:= .agg #[.int .i64 5,.int .u64 0,.int .u64 0,.int .u64 0,.int .u64 0,.slice A m c,.int .i64 0,.int .i64 0,.int .i64 0]) (by simp[results,Tryd.results25,go_sem,l0,l1,l2,l3,l4,l5,l6,l7,l8]) rfl (z1r hgw hval KK (HD.out _ hr))
  ·have KS:=Lib.hid (is_t 124 124 rfl b s k g o (by omega) false (y0l s k 124 (by omega)))
   have HD:Hid (∀ W,Rdr b W s k g o→DoneD b s Q (mkAlt (l.map (·.1))) W):=Lib.hid (z5y _ (by rw[HQ.out,hbad]) ho);clear ho hbad hmap
   rcases l with _ | ⟨x,_ | ⟨y,r⟩⟩
   ·exact absurd rfl hl0
   ·obtain⟨gx,cap,hv,_,hgx⟩:=HT'.out.row.form (by simp)
    injection hv with hA _ hc
    subst hA hc;obtain⟨⟨kx,S,ks,lo,hi,n⟩,A',c'⟩:=x;obtain⟨x0,x1,x2,x3,x4,x5,x6,x7,x8⟩:=z2z (HT'.out.at_ (i:=0) rfl);clear hgx;go_wp2_with (go_at_call 35;(with_reducible refine(KS.out _ HR'.out).mono ?_);go_must (rintro _ wz ⟨he,hr1,hg1⟩;subst he;have ht1:=HT'.out.next hg1;clear HR' HT';have HR':=Lib.hid hr1;have HT':=Lib.hid ht1;obtain⟨c0,c1,c2,c3,f1,f2,f3⟩:=hr1;obtain⟨x0,x1,x2,x3,x4,x5,x6,x7,x8⟩:=z2z (ht1.at_ (i:=0) rfl);obtain⟨d0,d1,d2,d3,d4,d5,d6,d7,d8,_⟩:=ht1.res;obtain⟨e0,e1,e2,e3,e4,e5,e6,e7,e8⟩:=Box9.freed ht1.res;clear hg1));obtain⟨W3,hW3,hbx,hr,hgw⟩:=endT (.int .i64 kx) (.int .u64 S.1.toNat) (.int .u64 S.2.1.toNat) (.int .u64 S.2.2.1.toNat) (.int .u64 S.2.2.2.toNat) (.slice A' ks.length c') (.int .i64 lo) (.int .i64 hi) (.int .i64 n) hb.out HR'.out HT'.out.grown HT'.out.res
    have KK:Kids (Fr w.heap.size W3.heap.size) W3 A' (.mk kx S ks lo hi n):=by
     have hs2:=congrArg (fun W=>W.heap.size) hW3;simp only[z0k] at hs2;rw[hs2,hW3];have hk1:=z05 (Q:=Fr (w.heap.size+1) wz.heap.size) (fun _ _=>rfl) (fun k hk=>⟨hk.1,hk.2.1⟩) _ _ (HT'.out.kids (Re.mk kx S ks lo hi n,A',c') (by simp));exact(hk1.put9 (.inl (by omega)) _ _ _ _ _ _ _ _ _).wide (by omega) (Nat.le_refl _)
    unfold put9 at hW3;rw[←hW3];obtain⟨l0,l1,l2,l3,l4,l5,l6,l7,l8,_⟩:=hbx;exact bodyPost_ret (v:= .agg #[.int .i64 kx,.int .u64 S.1.toNat,.int .u64 S.2.1.toNat,.int .u64 S.2.2.1.toNat,.int .u64 S.2.2.2.toNat,.slice A' ks.length c',.int .i64 lo,.int .i64 hi,.int .i64 n]) (by simp[results,Tryd.results25,go_sem,l0,l1,l2,l3,l4,l5,l6,l7,l8]) rfl (z1r hgw (by rfl) KK (HD.out _ hr))
   ·obtain⟨m,hm⟩:∃ m,m=(x::y::r).length:=⟨_,rfl⟩
    rw[←hm] at HT';rw[←hm];have hm2:2≤m:=by rw[hm];simp
    have m0:((m:Int)==0)=false:=by simp;omega
    have m1:((m:Int)==1)=false:=by simp;omega
    have HM:=Lib.hid hm;clear hm;go_wp2_with (go_at_call 35;(with_reducible refine(KS.out _ HR'.out).mono ?_);go_must (rintro _ wz ⟨he,hr1,hg1⟩;subst he;have ht1:=HT'.out.next hg1;clear HR' HT';have HR':=Lib.hid hr1;have HT':=Lib.hid ht1;obtain⟨c0,c1,c2,c3,f1,f2,f3⟩:=hr1;obtain⟨d0,d1,d2,d3,d4,d5,d6,d7,d8,_⟩:=ht1.res;obtain⟨e0,e1,e2,e3,e4,e5,e6,e7,e8⟩:=Box9.freed ht1.res;clear hg1));obtain⟨W3,hW3,hbx,hr,hgw⟩:=endT (.int .i64 5) (.int .u64 0) (.int .u64 0) (.int .u64 0) (.int .u64 0) (.slice A m c) (.int .i64 0) (.int .i64 0) (.int .i64 0) hb.out HR'.out HT'.out.grown HT'.out.res
    have KK:Kids (Fr w.heap.size W3.heap.size) W3 A (mkAlt ((x::y::r).map (·.1))):=by
     have hs2:=congrArg (fun W=>W.heap.size) hW3;simp only[z0k] at hs2;rw[hs2,hW3];have hk1:=HT'.out.whole1 5 none4 0 0 0;exact(hk1.put9 (.inl (by omega)) _ _ _ _ _ _ _ _ _).wide (by omega) (Nat.le_refl _)
    have hval:Value.agg #[.int .i64 5,.int .u64 0,.int .u64 0,.int .u64 0,.int .u64 0,.slice A m c,.int .i64 0,.int .i64 0,.int .i64 0]=valR (mkAlt ((x::y::r).map (·.1))) A c:=by rw[HM.out];show _=Value.agg #[.int .i64 5,.int .u64 0,.int .u64 0,.int .u64 0,.int .u64 0,.slice A (r.map (·.1)).length.succ.succ c,.int .i64 0,.int .i64 0,.int .i64 0];rw[List.length_map];rfl
    unfold put9 at hW3;rw[←hW3];obtain⟨l0,l1,l2,l3,l4,l5,l6,l7,l8,_⟩:=hbx;exact bodyPost_ret (v:= .agg #[.int .i64 5,.int .u64 0,.int .u64 0,.int .u64 0,.int .u64 0,.slice A m c,.int .i64 0,.int .i64 0,.int .i64 0]) (by simp[results,Tryd.results25,go_sem,l0,l1,l2,l3,l4,l5,l6,l7,l8]) rfl (z1r hgw hval KK (HD.out _ hr))
end Go.Proofs.YtejgbpbljdhndaaDoor
