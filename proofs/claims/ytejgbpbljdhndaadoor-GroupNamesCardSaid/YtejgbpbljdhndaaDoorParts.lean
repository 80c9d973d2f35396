import Derived.Test.YtejgbpbljdhndaaDoorV2
import Derived.Test.YtejgbpbljdhndaaDoorPrint2
namespace Go.Proofs.YtejgbpbljdhndaaDoor
open Go Go.RowKit
theorem y6t (c:UInt8):∃ d t,esc sgJ c=d::t∧d≠93∧d≠45∧d≠94:=by
 unfold esc;by_cases hc:c∈sgJ
 ·rw[if_pos hc];exact⟨92,[c],rfl,by decide,by decide,by decide⟩
 ·rw[if_neg hc]
  refine⟨c,[],rfl,?_,?_,?_⟩ <;> (rintro rfl;exact hc (by decide))
theorem z5g (p:Sp):∃ d t,itemJ p=d::t∧d≠93∧d≠45∧d≠94:=by
 obtain⟨d,t,h,h1⟩:=y6t p.1;exact⟨d,_,by unfold itemJ;rw[h];rfl,h1⟩
theorem y3l {s r:Bs} {k:Nat} {p:Sp} (h:s.drop k=itemJ p++r) (hp:okS p=true) (hr:r.head?≠some 45):item s k= .ok p (k+(itemJ p).length):=by
 obtain⟨lo,hi⟩:=p;simp only[okS,decide_eq_true_eq] at hp;unfold item;by_cases hlt:(lo.toNat:Int)<(hi.toNat:Int)
 ·have e:itemJ (lo,hi)=esc sgJ lo++45::esc sgJ hi:=by unfold itemJ;rw[if_pos hlt]
  rw[e,List.append_assoc] at h;rw[y2i h (by decide) (by decide)];have h2:=z04 h
  have h3:s.drop (k+(esc sgJ lo).length+1)=esc sgJ hi++r:=by
   have:=z04 (x:=[45]) h2;exact this
  dsimp only;rw[if_pos (z1a h2),y2i h3 (by decide) (by decide)];dsimp only;rw[if_neg (by omega),e];simp[Nat.add_assoc,Nat.add_comm 1]
 ·have e:itemJ (lo,hi)=esc sgJ lo:=by unfold itemJ;rw[if_neg hlt];simp
  have hx:lo=hi:=u8_eq (by omega);rw[e] at h;rw[y2i h (by decide) (by decide)];dsimp only;rw[if_neg (y1l (z04 h) hr),e,←hx]
theorem z60:∀ (l:List Sp) {s r:Bs} {k:Nat} {acc:List Sp},s.drop k=l.flatMap itemJ++93::r→(acc≠[]∨l≠[])→l.all okS=true→k≤s.length→
  goS s k acc= .ok (acc++l) (k+(l.flatMap itemJ).length+1)
 | [],s,r,k,acc,h,h0,_,_=>by
   have hc:acc≠[]:=by simpa using h0
   rw[z8q hc (z1a h)];simp
 | p::l,s,r,k,acc,h,_,hl,hk=>by
   rw[List.all_cons,Bool.and_eq_true] at hl;obtain⟨hp,hl⟩:=hl;rw[List.flatMap_cons,List.append_assoc] at h;obtain⟨d,t,hd,d1,d2,_⟩:=z5g p
   have h1:¬ (acc≠[]∧s[k]?=some 93):=by
    rintro⟨_,h93⟩;rw[hd] at h;have:=z1a h;rw[h93] at this;injection this with this
    exact d1 this.symm
   have hr:(l.flatMap itemJ++93::r).head?≠some 45:=by
    cases l with
    | nil=>simp
    | cons q l=>
      obtain⟨d',t',hd',_,d2',_⟩:=z5g q;rw[List.flatMap_cons,hd'];simpa using d2'
   have hi:=y3l h hp hr;obtain⟨_,hb⟩:=z66 hk hi;rw[z3u h1 hk hi,z60 l (z04 h) (.inl (by simp)) hl hb];simp[Nat.add_assoc]
theorem x1p {s r:Bs} {k:Nat} {c:UInt8} (h:s.drop k=c::r):k<s.length:=z0r (z1a h)
theorem y89:compl (allS [((0:UInt8),(255:UInt8))])=none4:=z6t fun c hc=>by
 rw[z29,z4y _ _ hc,z48];have:hasS c ((0:UInt8),(255:UInt8))=true:=by unfold hasS;simp;omega
 simp[this]
theorem y9a:allS [((0:UInt8),(255:UInt8))]=compl none4:=z6t fun c hc=>by
 rw[z29,z4y _ _ hc,z48];have:hasS c ((0:UInt8),(255:UInt8))=true:=by unfold hasS;simp;omega
 simp[this]
theorem x1v (c:UInt8):allS [(c,c)]=ins none4 c.toNat:=by
 show addS none4 (c,c)=_;unfold addS;dsimp only;rw[show c.toNat+1 - c.toNat=1 by omega]
 rfl
theorem y8l {grp:Rd} {s r:Bs} {k:Nat} (g:Nat) {c:UInt8} (h:s.drop k=esc sgA c++r):atomR grp s k g= .ok (rSet (ins none4 c.toNat)) (k+(esc sgA c).length) g:=by
 have hne:∀ d:UInt8,d∈([94,36,46,40,91]:Bs)→s[k]?≠some d:=by
  intro d hd;refine y1l h ?_;unfold esc
  split
  ·rintro e
   injection e with e
   subst e
   revert hd;decide
  ·rename_i hn
   rintro e;injection e with e
   subst e;exact hn (by revert hd;simp[sgA];rintro(rfl | rfl | rfl | rfl | rfl) <;> simp)
 unfold atomR;rw[if_neg (hne 94 (by decide)),if_neg (hne 36 (by decide)),if_neg (hne 46 (by decide)),if_neg (hne 40 (by decide)),if_neg (hne 91 (by decide)),y2i h (by decide) (fun x hx=>hx)]
theorem z77 {grp:Rd} {s:Bs} {k q:Nat} (g:Nat) {S:S4} (h:s[k]?=some 91) (hc:cls s (k+1)= .ok S q):atomR grp s k g= .ok (rSet S) q g:=by
 unfold atomR;rw[h,hc]
 rfl
theorem y8r {s r:Bs} {k:Nat} {l:List Sp} (h:s.drop k=l.flatMap itemJ++93::r) (hl:l≠[]) (ho:l.all okS=true):cls s k= .ok (allS l) (k+(l.flatMap itemJ).length+1):=by
 have hlt:k<s.length:=by
  have:=congrArg List.length h;simp only[List.length_drop,List.length_append,List.length_cons] at this;omega
 have h94:s[k]?≠some 94:=by
  refine y1l h ?_;obtain⟨p,l',rfl⟩:=List.exists_cons_of_ne_nil hl;obtain⟨d,t,hd,_,_,d3⟩:=z5g p;rw[List.flatMap_cons,hd];simpa using d3
 unfold cls;rw[if_neg h94,z60 l h (.inr hl) ho (by omega)]
 rfl
theorem y81 {grp:Rd} {s r:Bs} {k:Nat} (g:Nat) {S:S4} (h:s.drop k=setText S++r):atomR grp s k g= .ok (rSet S) (k+(setText S).length) g:=by
 have hS:=y7e S;by_cases h0:runs S=[]
 ·rw[z6r h0] at h ⊢
  rw[h0] at hS;have h1:=z1a h
  have h2:s.drop (k+1)=94::(([((0:UInt8),(255:UInt8))]:List Sp).flatMap itemJ++93::r):=by
   have:=z04 (x:=[91]) (r:=[94,0,45,255,93]++r) (s:=s) (k:=k) (by rw[h];rfl);rw[show k+1=k+([91]:Bs).length from rfl,this]
   rfl
  have h3:s.drop (k+1+1)=([((0:UInt8),(255:UInt8))]:List Sp).flatMap itemJ++93::r:=z04 (x:=[94]) h2;refine z77 g h1 ?_;unfold cls;have:=x1p h2;rw[if_pos (z1a h2),z60 _ h3 (.inr (by simp)) (by decide) (by omega)];dsimp only;rw[List.nil_append,y89,←hS]
  rfl
 ·by_cases h1:∃ c,runs S=[(c,c)]
  ·obtain⟨c,hc⟩:=h1
   rw[z6q hc] at h ⊢;rw[y8l g h,←hS,hc,x1v]
  ·by_cases h2:runs S=[(0,255)]
   ·rw[z5t h2] at h ⊢
    rw[h2,y9a] at hS;have h3:=z1a h;unfold atomR;rw[h3,hS]
    rfl
   ·rw[z32 h0 (fun c hc=>h1 ⟨c,hc⟩) h2] at h ⊢
    have h3:s.drop (k+1)=(runs S).flatMap itemJ++93::r:=by
     have:=z04 (x:=[91]) (r:=(runs S).flatMap itemJ++93::r) (s:=s) (k:=k) (by rw[h];simp);exact this
    have hc:=y8r h3 h0 (z8k S 256 (by omega));rw[hS] at hc;rw[z77 g (z1a h) hc];simp;omega
theorem y5q {x:Int} (h0:0≤x) (h8:x≤8):((dig x).toNat:Int) - 48=x:=by
 unfold dig;rw[UInt8.toNat_ofNat',Nat.mod_eq_of_lt (by omega)];omega
theorem z58 {s:Bs} {k:Nat} {least x:Int} (h:s[k]?=some (dig x)) (h0:0≤x) (h8:x≤8) (hl:least≤x):numb s k least=some x:=by
 unfold numb;rw[h];dsimp only;rw[y5q h0 h8,if_neg (by omega)]
theorem z2k {s:Bs} {k j:Nat} {l:Bs} (h:s.drop k=l):s[k+j]?=l[j]?:=by
 rw[←h,List.getElem?_drop]
theorem y72 {lo hi:Int} (h:bound lo hi=true):0≤lo∧lo≤8∧(hi= -1∨lo≤hi∧hi≤8):=by
 unfold bound at h;simpa using h
theorem x3s {x:Int} (h0:0≤x) (h8:x≤8) (c:UInt8) (hc:c.toNat<48∨56<c.toNat):dig x≠c:=by
 rintro rfl;have:=y5q h0 h8;omega
theorem y6r {s r:Bs} {q:Nat} {lo hi:Int} (x:Re) (g:Nat) (h:s.drop q=signT lo hi++r) (hb:bound lo hi=true):tailP s x q g= .ok (rRep x lo hi) (q+(signT lo hi).length) g:=by
 obtain⟨b1,b2,b3⟩:=y72 hb;unfold signT at h ⊢
 split at h
 ·rename_i e
  obtain⟨rfl,rfl⟩:=e;have:=z1a h;unfold tailP;rw[this];rfl
 ·rename_i n1
  split at h
  ·rename_i e
   obtain⟨rfl,rfl⟩:=e;have:=z1a h;unfold tailP;rw[this];rfl
  ·rename_i n2
   split at h
   ·rename_i e
    obtain⟨rfl,rfl⟩:=e;have:=z1a h;unfold tailP;rw[this];rfl
   ·rename_i n3
    rw[if_neg n1,if_neg n2,if_neg n3]
    have key:∀ (t:Bs) (p:Nat),s[q]?=some 123→bnds s (q+1)= .ok (lo,hi) p→p=q+t.length→tailP s x q g= .ok (rRep x lo hi) (q+t.length) g:=by
     intro t p h1 h2 h3;unfold tailP;rw[h1,h2,h3];rfl
    split at h
    ·rename_i e
     subst e;rw[if_pos rfl];have e0:=z2k (j:=0) h;have e1:=z2k (j:=1) h;have e2:=z2k (j:=2) h;refine key _ (q+3) (by simpa using e0) ?_ (by simp);unfold bnds;rw[z58 (x:=hi) (by simpa using e1) b1 b2 b1];dsimp only;rw[if_neg (by rw[show q+1+1=q+2 by omega,e2];simp)];unfold closeB;rw[if_pos (by rw[show q+1+1=q+2 by omega,e2];simp)]
    ·rename_i n4
     rw[if_neg n4]
     split at h
     ·rename_i e
      subst e;rw[if_pos rfl];have e0:=z2k (j:=0) h;have e1:=z2k (j:=1) h;have e2:=z2k (j:=2) h;have e3:=z2k (j:=3) h;refine key _ (q+4) (by simpa using e0) ?_ (by simp);unfold bnds;rw[z58 (x:=lo) (by simpa using e1) b1 b2 b1];dsimp only;rw[if_pos (by rw[show q+1+1=q+2 by omega,e2];simp),if_pos (by rw[show q+1+2=q+3 by omega,e3];simp)]
     ·rename_i n5
      rw[if_neg n5];have b4:lo≤hi∧hi≤8:=by omega
      have e0:=z2k (j:=0) h;have e1:=z2k (j:=1) h;have e2:=z2k (j:=2) h;have e3:=z2k (j:=3) h;have e4:=z2k (j:=4) h;have d3:=x3s (x:=hi) (by omega) b4.2 125 (by decide);refine key _ (q+5) (by simpa using e0) ?_ (by simp);unfold bnds;rw[z58 (x:=lo) (by simpa using e1) b1 b2 b1];dsimp only;rw[if_pos (by rw[show q+1+1=q+2 by omega,e2];simp),if_neg (by rw[show q+1+2=q+3 by omega,e3];simpa using d3),z58 (x:=hi) (by rw[show q+1+2=q+3 by omega];simpa using e3) (by omega) b4.2 b4.1];dsimp only;unfold closeB;rw[if_pos (by rw[show q+1+3=q+4 by omega,e4];simp)]
theorem z3l {k:Int} {S:S4} {ks:List Re} {lo hi n:Int} (h:told (.mk k S ks lo hi n)=true):
  (k=1∨S=none4)∧(k=7∨n=0)∧(k=6→(∃ x,ks=[x]∧rep x=true)∧bound lo hi=true)∧(k≠6→lo=0∧hi=0)∧(k=7→∃ x,ks=[x])∧(k=4∨k=5→2≤ks.length)∧(k≠4→k≠5→k≠6→k≠7→ks=[]):=by
 unfold told at h;simp only[Bool.and_eq_true,Bool.or_eq_true,decide_eq_true_eq] at h;obtain⟨h1,h2,h3⟩:=h;refine⟨h1,h2,?_,?_,?_,?_,?_⟩
 ·rintro rfl
  rw[if_pos rfl] at h3;simp only[Bool.and_eq_true] at h3;obtain⟨h3,h4⟩:=h3;refine⟨?_,h4⟩
  split at h3
  ·exact⟨_,rfl,h3⟩
  ·cases h3
 ·intro hk
  rw[if_neg hk] at h3;simp only[Bool.and_eq_true,decide_eq_true_eq] at h3;exact⟨h3.1,h3.2.1⟩
 ·rintro rfl
  rw[if_neg (by decide),if_pos rfl] at h3;simp only[Bool.and_eq_true,decide_eq_true_eq] at h3;exact List.length_eq_one_iff.1 h3.2.2
 ·intro hk
  rw[if_neg (by omega),if_neg (by omega),if_pos hk] at h3;simp only[Bool.and_eq_true,decide_eq_true_eq] at h3;exact h3.2.2
 ·intro h4 h5 h6 h7
  rw[if_neg h6,if_neg h7,if_neg (by omega)] at h3;simp only[Bool.and_eq_true,decide_eq_true_eq] at h3;exact List.length_eq_zero_iff.1 h3.2.2
theorem z1l {k:Int} {S:S4} {ks:List Re} {lo hi n:Int} {lv d g g':Nat} (h:form (.mk k S ks lo hi n) lv d g=some g'):
  lev k≤lv∧told (.mk k S ks lo hi n)=true∧(k=7→n=num (g+1)∧d<64∧formL ks 3 (d+1) (g+1)=some g')∧(k≠7→formL ks (levK k) d g=some g'):=by
 rw[form] at h
 split at h
 ·rename_i hh
  refine⟨hh.1,hh.2,?_,?_⟩
  ·rintro rfl
   rw[if_pos rfl] at h
   split at h
   ·rename_i h2;exact⟨h2.1,h2.2,h⟩
   ·cases h
  ·intro hk
   rw[if_neg hk] at h;exact h
 ·cases h
theorem z4l {r:Re} {lv lv' d g g':Nat} (h:form r lv d g=some g') (hl:lev r.kind≤lv'):form r lv' d g=some g':=by
 obtain⟨k,S,ks,lo,hi,n⟩:=r;obtain⟨_,h2,_,_⟩:=z1l h;rw[form] at h ⊢;rw[if_pos ⟨hl,h2⟩]
 split at h
 ·exact h
 ·cases h
theorem lev0 {k:Int} (h:lev k≤0):k=1∨k=2∨k=3∨k=7:=by
 unfold lev at h
 split at h
 ·assumption
 ·split at h
  ·omega
  ·split at h
   ·omega
   ·split at h <;> omega
theorem lev1 {k:Int} (h:lev k≤1):lev k≤0∨k=6:=by
 unfold lev at h ⊢
 split at h
 ·left;rw[if_pos (by assumption)];exact Nat.le_refl _
 ·split at h
  ·right;assumption
  ·split at h
   ·omega
   ·split at h <;> omega
theorem lev2 {k:Int} (h:lev k≤2):lev k≤1∨k=0∨k=4:=by
 unfold lev at h ⊢
 split at h
 ·left;rw[if_pos (by assumption)];omega
 ·rename_i h0
  split at h
  ·left;rw[if_neg h0,if_pos (by assumption)];exact Nat.le_refl _
  ·split at h
   ·right;assumption
   ·split at h <;> omega
theorem lev3 {k:Int} (h:lev k≤3):lev k≤2∨k=5:=by
 unfold lev at h ⊢
 split at h
 ·left;rw[if_pos (by assumption)];omega
 ·rename_i h0
  split at h
  ·left;rw[if_neg h0,if_pos (by assumption)];omega
  ·rename_i h1
   split at h
   ·left;rw[if_neg h0,if_neg h1,if_pos (by assumption)];omega
   ·split at h
    ·right;assumption
    ·omega
def Headed (t:Bs):Prop:=∃ c u,t=c::u∧c ∉ sgR∧c≠124∧c≠41
theorem y84 (c:UInt8):Headed (esc sgA c):=by
 unfold esc;by_cases hc:c∈sgA
 ·rw[if_pos hc];exact⟨92,[c],rfl,by decide,by decide,by decide⟩
 ·rw[if_neg hc]
  refine⟨c,[],rfl,fun h=>hc ?_,?_,?_⟩
  ·revert h;simp[sgR,sgA];rintro(rfl | rfl | rfl | rfl) <;> simp
  ·rintro rfl;exact hc (by decide)
  ·rintro rfl;exact hc (by decide)
theorem y9e (S:S4):Headed (setText S):=by
 unfold setText
 split
 ·exact⟨91,_,rfl,by decide,by decide,by decide⟩
 ·split
  ·exact y84 _
  ·split
   ·exact⟨46,_,rfl,by decide,by decide,by decide⟩
   ·exact⟨91,_,rfl,by decide,by decide,by decide⟩
theorem Headed.app {t:Bs} (h:Headed t) (u:Bs):Headed (t++u):=by
 obtain⟨c,v,rfl,h1⟩:=h;exact⟨c,v++u,rfl,h1⟩
theorem y0e {r:Re} {d g g':Nat} (h:form r 0 d g=some g'):Headed (textE r):=by
 obtain⟨k,S,ks,lo,hi,n⟩:=r;obtain⟨h1,_⟩:=z1l h;rw[textE]
 rcases lev0 h1 with rfl | rfl | rfl | rfl
 ·exact y9e S
 ·exact⟨94,_,rfl,by decide,by decide,by decide⟩
 ·exact⟨36,_,rfl,by decide,by decide,by decide⟩
 ·exact⟨40,_,rfl,by decide,by decide,by decide⟩
theorem z1n {x:Re} {lv d g:Nat}:formL [x] lv d g=form x lv d g:=by
 rw[formL]
 cases form x lv d g with
 | none=>rfl
 | some g'=>rfl
theorem z4s (sep:Bs) (x:Re):joinT sep [x]=textE x:=by rw[joinT,tailT,List.append_nil]
theorem z7t {r:Re} {d g g':Nat} (h:form r 1 d g=some g'):Headed (textE r):=by
 obtain⟨k,S,ks,lo,hi,n⟩:=r;obtain⟨h1,h2,_,h4⟩:=z1l h
 rcases lev1 h1 with h0 | rfl
 ·exact y0e (z4l h h0)
 ·obtain⟨⟨x,rfl,_⟩,_⟩:=(z3l h2).2.2.1 rfl
  have h4:=h4 (by decide);rw[z1n] at h4;rw[textE,if_neg (by decide),if_neg (by decide),if_neg (by decide),if_neg (by decide),if_pos rfl,z4s];exact(y0e h4).app _
abbrev grpC (s:Bs) (m:Nat):Rd:=grpM (fun grp=>pieceC grp s) s m
def Tr0 (r:Re):Prop:=∀ (s:Bs) (m d k g g':Nat) (rest:Bs),m+d=64→s.drop k=textE r++rest→form r 0 d g=some g'→atomR (grpC s m) s k g= .ok r (k+(textE r).length) g'
def Tr1 (r:Re):Prop:=∀ (s:Bs) (m d k g g':Nat) (rest:Bs),m+d=64→s.drop k=textE r++rest→form r 1 d g=some g'→(∀ c,rest.head?=some c→c ∉ sgR)→pieceC (grpC s m) s k g= .ok r (k+(textE r).length) g'
def Tr2 (r:Re):Prop:=∀ (s:Bs) (m d k g g':Nat) (rest:Bs),m+d=64→s.drop k=textE r++rest→k≤s.length→form r 2 d g=some g'→(∀ c,rest.head?=some c→c=124∨c=41)→rowOf (pieceC (grpC s m) s) s k g= .ok r (k+(textE r).length) g'
def Tr3 (r:Re):Prop:=∀ (s:Bs) (m d k g g':Nat) (rest:Bs),m+d=64→s.drop k=textE r++rest→k≤s.length→form r 3 d g=some g'→(∀ c,rest.head?=some c→c=41)→exC s m k g= .ok r (k+(textE r).length) g'
theorem z5a {s r:Bs} {k:Nat} (h:s.drop k=r):s[k]?=r.head?:=by
 cases r with
 | nil=>exact y10 h
 | cons c r=>exact z1a h
theorem x1u {r:Re} (h0:Tr0 r) (hl:lev r.kind≤0):Tr1 r:=by
 intro s m d k g g' rest hm hd hf hr;have ha:=h0 s m d k g g' rest hm hd (z4l hf hl);have hq:=z5a (z04 hd)
 have hne:∀ c∈sgR,s[k+(textE r).length]?≠some c:=by
  intro c hc e;rw[hq] at e;exact hr c e hc
 unfold pieceC;rw[ha];dsimp only
 split
 ·unfold tailP
  rw[if_neg (hne 42 (by decide)),if_neg (hne 43 (by decide)),if_neg (hne 63 (by decide)),if_neg (hne 123 (by decide))]
 ·rfl
theorem x2e {S:S4} {x:Re} {lo hi n:Int} (h0:Tr0 x):Tr1 (.mk 6 S [x] lo hi n):=by
 intro s m d k g g' rest hm hd hf hr;obtain⟨h1,h2,_,h4⟩:=z1l hf;obtain⟨t1,t2,t3,_⟩:=z3l h2;obtain⟨⟨y,hy,hrep⟩,hb⟩:=t3 rfl;injection hy with hy _
 subst hy;have h4:=h4 (by decide);rw[z1n] at h4
 have hS:S=none4:=by rcases t1 with t1 | t1;·exact absurd t1 (by decide)
                     ·exact t1
 have hn:n=0:=by rcases t2 with t2 | t2;·exact absurd t2 (by decide)
                 ·exact t2
 subst hS hn;rw[textE,if_neg (by decide),if_neg (by decide),if_neg (by decide),if_neg (by decide),if_pos rfl,z4s] at hd ⊢;rw[List.append_assoc] at hd;have ha:=h0 s m d k g g' _ hm hd h4;unfold pieceC;rw[ha];dsimp only;rw[if_pos hrep,y6r x g' (z04 hd) hb,List.length_append,Nat.add_assoc]
 rfl
theorem z76 {s r:Bs} {k:Nat} (h:s.drop k=r):stops s k=match r.head? with
  | none=>true
  | some c=>decide (c=124) || decide (c=41):=by
 have e:=z5a h;unfold stops
 cases hr:r.head? with
 | none=>rw[hr] at e;rw[e]
 | some c=>rw[hr] at e;rw[e]
theorem y0v {s r:Bs} {k:Nat} (h:s.drop k=r) (hr:∀ c,r.head?=some c→c=124∨c=41):stops s k=true:=by
 rw[z76 h]
 cases hh:r.head? with
 | none=>rfl
 | some c=>rcases hr c hh with rfl | rfl <;> rfl
theorem y7z {s t:Bs} {k:Nat} {r:Bs} (ht:Headed t) (h:s.drop k=t++r):stops s k=false:=by
 obtain⟨c,u,rfl,_,h2,h3⟩:=ht;rw[z76 h];simp[h2,h3]
theorem y12:∀ l:List Re,tailT [] l=joinT [] l
 | []=>rfl
 | x::l=>by rw[tailT,joinT];rfl
theorem z6x {s:Bs} {m d:Nat} (hm:m+d=64) {rest:Bs} (hr:∀ c,rest.head?=some c→c=124∨c=41):∀ (l:List Re) (k g g':Nat) (acc:List Re),(∀ x∈l,Tr1 x)→s.drop k=joinT [] l++rest→k≤s.length→formL l 1 d g=some g'→
  rowL (pieceC (grpC s m) s) s k g acc= .ok (acc++l) (k+(joinT [] l).length) g'
 | [],k,g,g',acc,_,hd,hk,hf=>by
   rw[formL] at hf;injection hf with hf
   subst hf;rw[z2m (y0v hd hr)];simp[joinT]
 | x::l,k,g,g',acc,hl,hd,hk,hf=>by
   rw[formL] at hf
   cases hx:form x 1 d g with
   | none=>rw[hx] at hf;cases hf
   | some g1=>
     rw[hx] at hf;dsimp only at hf;rw[joinT,y12,List.append_assoc] at hd;rw[joinT,y12];have hh:=z7t hx
     have hp:=hl x (by simp) s m d k g g1 _ hm hd hx (by
      intro c hc
      cases l with
      | nil=>
        rcases hr c hc with rfl | rfl <;> decide
      | cons y l=>
        rw[formL] at hf
        cases hy:form y 1 d g1 with
        | none=>rw[hy] at hf;cases hf
        | some g2=>
          obtain⟨c',u,e,h1,_⟩:=z7t hy;rw[joinT,e] at hc;injection hc with hc
          subst hc;exact h1)
     have hd2:=z04 hd
     have hle:k+(textE x).length≤s.length:=by
      have:=congrArg List.length hd;simp only[List.length_drop,List.length_append] at this;omega
     have hpos:0<(textE x).length:=by obtain⟨c,u,e,_⟩:=hh;rw[e];simp
     rw[z27 (y7z hh hd) hp ⟨by omega,hle⟩,z6x hm hr l _ _ g' _ (fun y hy=>hl y (by simp[hy])) hd2 hle hf];simp[Nat.add_assoc]
theorem x2y {r:Re} (h1:Tr1 r) (hl:lev r.kind≤1):Tr2 r:=by
 intro s m d k g g' rest hm hd hk hf hr;have e:textE r=joinT [] [r]:=(z4s [] r).symm;have:=z6x (s:=s) hm hr [r] k g g' [] (by simpa using h1) (by rw[←e];exact hd) hk (by rw[z1n];exact z4l hf hl);unfold rowOf;rw[this,←e]
 rfl
theorem y91 {S:S4} {ks:List Re} {lo hi n:Int}:Tr2 (.mk 0 S ks lo hi n):=by
 intro s m d k g g' rest hm hd hk hf hr;obtain⟨_,h2,_,h4⟩:=z1l hf;obtain⟨t1,t2,_,t4,_,_,t7⟩:=z3l h2;obtain rfl:=t7 (by decide) (by decide) (by decide) (by decide)
 have hS:S=none4:=by rcases t1 with t1 | t1;·exact absurd t1 (by decide)
                     ·exact t1
 have hn:n=0:=by rcases t2 with t2 | t2;·exact absurd t2 (by decide)
                 ·exact t2
 obtain⟨rfl,rfl⟩:=t4 (by decide);subst hS hn;have h4:=h4 (by decide);rw[formL] at h4;injection h4 with h4
 subst h4;have e:textE (.mk 0 none4 [] 0 0 0)=[]:=by simp[textE,joinT]
 rw[e] at hd ⊢;unfold rowOf;rw[z2m (y0v hd hr)]
 rfl
theorem y9r {S:S4} {ks:List Re} {lo hi n:Int} (h1:∀ x∈ks,Tr1 x):Tr2 (.mk 4 S ks lo hi n):=by
 intro s m d k g g' rest hm hd hk hf hr;obtain⟨_,h2,_,h4⟩:=z1l hf;obtain⟨t1,t2,_,t4,_,t6,_⟩:=z3l h2
 have hS:S=none4:=by rcases t1 with t1 | t1;·exact absurd t1 (by decide)
                     ·exact t1
 have hn:n=0:=by rcases t2 with t2 | t2;·exact absurd t2 (by decide)
                 ·exact t2
 obtain⟨rfl,rfl⟩:=t4 (by decide);have t6:=t6 (.inl rfl);subst hS hn;have h4:=h4 (by decide);have e:textE (.mk 4 none4 ks 0 0 0)=joinT [] ks:=by simp[textE]
 rw[e] at hd ⊢;have:=z6x (s:=s) hm hr ks k g g' [] h1 hd hk h4;unfold rowOf;rw[this];dsimp only;rw[List.nil_append]
 match ks,t6 with
 | a::b::l,_=>rfl
theorem z7b {s:Bs} {m d:Nat} (hm:m+d=64) {rest:Bs} (hr:∀ c,rest.head?=some c→c=41):∀ (l:List Re) (x:Re) (k g g':Nat) (acc:List Re),(∀ y∈x::l,Tr2 y)→s.drop k=joinT [124] (x::l)++rest→k≤s.length→formL (x::l) 2 d g=some g'→
  altL (rowOf (pieceC (grpC s m) s) s) s k g acc= .ok (acc++x::l) (k+(joinT [124] (x::l)).length) g'
 | [],x,k,g,g',acc,hl,hd,hk,hf=>by
   rw[z1n] at hf;rw[z4s] at hd ⊢;have hx:=hl x (by simp) s m d k g g' rest hm hd hk hf (fun c hc=> .inr (hr c hc));have hq:=z5a (z04 hd);rw[z3e hx (by rw[hq];intro e;have:=hr _ e;revert this;decide)]
 | y::l,x,k,g,g',acc,hl,hd,hk,hf=>by
   rw[formL] at hf
   cases hx:form x 2 d g with
   | none=>rw[hx] at hf;cases hf
   | some g1=>
     rw[hx] at hf;dsimp only at hf;rw[joinT,tailT,List.append_assoc] at hd;rw[joinT,tailT];have hxr:=hl x (by simp) s m d k g g1 _ hm hd hk hx (fun c hc=>by injection hc with hc;exact .inl hc.symm);have hd2:=z04 hd;have hq:s[k+(textE x).length]?=some 124:=z5a hd2;have hlt:=z0r hq
     have hd3:s.drop (k+(textE x).length+1)=joinT [124] (y::l)++rest:=by
      have:=z04 (x:=[124]) (r:=joinT [124] (y::l)++rest) (by rw[hd2];rfl);exact this
     rw[z4m hxr hq (by omega),z7b hm hr l y _ _ g' _ (fun z hz=>hl z (by simp at hz ⊢;right;exact hz)) hd3 (by omega) hf];rw[joinT];simp[Nat.add_assoc,Nat.add_comm 1]
theorem x12 {r:Re} (h2:Tr2 r) (hl:lev r.kind≤2):Tr3 r:=by
 intro s m d k g g' rest hm hd hk hf hr;have e:textE r=joinT [124] [r]:=(z4s _ r).symm;have:=z7b (s:=s) hm hr [] r k g g' [] (by simpa using h2) (by rw[←e];exact hd) hk (by rw[z1n];exact z4l hf hl);show altOf _ s k g=_;unfold altOf;rw[this,←e]
 rfl
theorem y9y {S:S4} {ks:List Re} {lo hi n:Int} (h1:∀ x∈ks,Tr2 x):Tr3 (.mk 5 S ks lo hi n):=by
 intro s m d k g g' rest hm hd hk hf hr;obtain⟨_,h2,_,h4⟩:=z1l hf;obtain⟨t1,t2,_,t4,_,t6,_⟩:=z3l h2
 have hS:S=none4:=by rcases t1 with t1 | t1;·exact absurd t1 (by decide)
                     ·exact t1
 have hn:n=0:=by rcases t2 with t2 | t2;·exact absurd t2 (by decide)
                 ·exact t2
 obtain⟨rfl,rfl⟩:=t4 (by decide);have t6:=t6 (.inr rfl);subst hS hn;have h4:=h4 (by decide);have e:textE (.mk 5 none4 ks 0 0 0)=joinT [124] ks:=by simp[textE]
 rw[e] at hd ⊢
 match ks,t6 with
 | a::b::l,_=>
   have:=z7b (s:=s) hm hr (b::l) a k g g' [] h1 hd hk h4;show altOf _ s k g=_;unfold altOf;rw[this]
   rfl
theorem y6d {S:S4} {x:Re} {lo hi n:Int} (h3:Tr3 x):Tr0 (.mk 7 S [x] lo hi n):=by
 intro s m d k g g' rest hm hd hf;obtain⟨_,h2,h3',_⟩:=z1l hf;obtain⟨hn,hd64,hfl⟩:=h3' rfl;obtain⟨t1,_,_,t4,_,_,_⟩:=z3l h2
 have hS:S=none4:=by rcases t1 with t1 | t1;·exact absurd t1 (by decide)
                     ·exact t1
 obtain⟨rfl,rfl⟩:=t4 (by decide);subst hS hn;rw[z1n] at hfl;have e:textE (.mk 7 none4 [x] 0 0 (num (g+1)))=40::(textE x++[41]):=by simp[textE,joinT,tailT]
 rw[e] at hd ⊢;obtain⟨m,rfl⟩:∃ m',m=m'+1:=⟨m - 1,by omega⟩;have h40:=z1a hd;have hlt:=z0r h40
 have hd2:s.drop (k+1)=textE x++(41::rest):=by
  have:=z04 (x:=[40]) (r:=textE x++(41::rest)) (s:=s) (k:=k) (by rw[hd];simp);exact this
 have hx:=h3 s m (d+1) (k+1) (g+1) g' _ (by omega) hd2 (by omega) hfl (fun c hc=>by injection hc with hc;exact hc.symm);have hq:s[k+1+(textE x).length]?=some 41:=z5a (z04 hd2);unfold atomR;rw[h40];show grpC s (m+1) k g=_;show grpM _ s (m+1) k g=_;rw[z2y];unfold grpR;rw[show exM (fun grp=>pieceC grp s) s m (k+1) (g+1)=_ from hx];dsimp only;rw[if_pos hq];simp[rGrp];omega
theorem x3k (r:Re):Tr0 r∧Tr1 r∧Tr2 r∧Tr3 r:=by
 refine Re.ind (P:=fun r=>Tr0 r∧Tr1 r∧Tr2 r∧Tr3 r) ?_ r;intro k S ks lo hi n ih
 have a0:Tr0 (.mk k S ks lo hi n):=by
  intro s m d kk g g' rest hm hd hf;obtain⟨h1,h2,_,h4⟩:=z1l hf;obtain⟨t1,t2,_,t4,t5,_,t7⟩:=z3l h2
  rcases lev0 h1 with rfl | rfl | rfl | rfl
  ·obtain rfl:=t7 (by decide) (by decide) (by decide) (by decide)
   have hn:n=0:=by rcases t2 with t2 | t2;·exact absurd t2 (by decide)
                   ·exact t2
   obtain⟨rfl,rfl⟩:=t4 (by decide);subst hn;have h4:=h4 (by decide);rw[formL] at h4;injection h4 with h4
   subst h4;have e:textE (.mk 1 S [] 0 0 0)=setText S:=by simp[textE]
   rw[e] at hd ⊢;exact y81 g hd
  ·obtain rfl:=t7 (by decide) (by decide) (by decide) (by decide)
   have hS:S=none4:=by rcases t1 with t1 | t1;·exact absurd t1 (by decide)
                       ·exact t1
   have hn:n=0:=by rcases t2 with t2 | t2;·exact absurd t2 (by decide)
                   ·exact t2
   obtain⟨rfl,rfl⟩:=t4 (by decide);subst hS hn;have h4:=h4 (by decide);rw[formL] at h4;injection h4 with h4
   subst h4;have e:textE (.mk 2 none4 [] 0 0 0)=[94]:=by simp[textE]
   rw[e] at hd ⊢;unfold atomR;rw[z1a hd];rfl
  ·obtain rfl:=t7 (by decide) (by decide) (by decide) (by decide)
   have hS:S=none4:=by rcases t1 with t1 | t1;·exact absurd t1 (by decide)
                       ·exact t1
   have hn:n=0:=by rcases t2 with t2 | t2;·exact absurd t2 (by decide)
                   ·exact t2
   obtain⟨rfl,rfl⟩:=t4 (by decide);subst hS hn;have h4:=h4 (by decide);rw[formL] at h4;injection h4 with h4
   subst h4;have e:textE (.mk 3 none4 [] 0 0 0)=[36]:=by simp[textE]
   rw[e] at hd ⊢;unfold atomR;rw[z1a hd];rfl
  ·obtain⟨x,rfl⟩:=t5 rfl
   exact y6d (ih x (by simp)).2.2.2 s m d kk g g' rest hm hd hf
 have a1:Tr1 (.mk k S ks lo hi n):=by
  intro s m d kk g g' rest hm hd hf;obtain⟨h1,h2,_⟩:=z1l hf
  rcases lev1 h1 with h0 | rfl
  ·exact x1u a0 h0 s m d kk g g' rest hm hd hf
  ·obtain⟨⟨x,rfl,_⟩,_⟩:=(z3l h2).2.2.1 rfl
   exact x2e (ih x (by simp)).1 s m d kk g g' rest hm hd hf
 have a2:Tr2 (.mk k S ks lo hi n):=by
  intro s m d kk g g' rest hm hd hk hf;obtain⟨h1,h2,_⟩:=z1l hf
  rcases lev2 h1 with h0 | rfl | rfl
  ·exact x2y a1 h0 s m d kk g g' rest hm hd hk hf
  ·exact y91 s m d kk g g' rest hm hd hk hf
  ·exact y9r (fun x hx=>(ih x hx).2.1) s m d kk g g' rest hm hd hk hf
 refine⟨a0,a1,a2,?_⟩;intro s m d kk g g' rest hm hd hk hf;obtain⟨h1,h2,_⟩:=z1l hf
 rcases lev3 h1 with h0 | rfl
 ·exact x12 a2 h0 s m d kk g g' rest hm hd hk hf
 ·exact y9y (fun x hx=>(ih x hx).2.2.1) s m d kk g g' rest hm hd hk hf
theorem z61 {r:Re} {g:Nat} (h:form r 3 0 0=some g) (hl:(textE r).length≤200):parseE (textE r)=(some r,0,0):=by
 have:=(x3k r).2.2.2 (textE r) 64 0 0 0 g [] (by omega) (by simp) (by omega) h (fun c hc=>by cases hc);unfold parseE;rw[if_neg (by omega),this];dsimp only;rw[if_neg (by omega)]
theorem z4c {lv d:Nat}:∀ {l:List Re} {x:Re} {g g1 g2:Nat},formL l lv d g=some g1→form x lv d g1=some g2→formL (l++[x]) lv d g=some g2
 | [],x,g,g1,g2,h,hx=>by
   rw[formL] at h;injection h with h
   subst h;rw[List.nil_append,z1n];exact hx
 | y::l,x,g,g1,g2,h,hx=>by
   rw[formL] at h;rw[List.cons_append,formL]
   cases hy:form y lv d g with
   | none=>rw[hy] at h;cases h
   | some g3=>
     rw[hy] at h;exact z4c h hx
theorem z5b (x:Re):∀ l:List Re,sizeL (l++[x])=sizeL l+sizeE x
 | []=>by simp[sizeL]
 | y::l=>by rw[List.cons_append,sizeL,z5b x l,sizeL];omega
def MadeA (s:Bs) (rd:Rd) (lv d:Nat):Prop:=∀ k g x q g',k<s.length→rd k g= .ok x q g'→form x lv d g=some g'∧sizeE x+2 * k≤2 * q
def MadeE (s:Bs) (rd:Rd) (lv d:Nat):Prop:=∀ k g x q g',k≤s.length→rd k g= .ok x q g'→form x lv d g=some g'∧sizeE x+2 * k≤2 * q+1
theorem z8g (S:S4) (lv d g:Nat):form (rSet S) lv d g=some g:=by simp[rSet,form,told,lev,formL]
theorem z8c (S:S4):sizeE (rSet S)=1:=by simp[rSet,sizeE,sizeL]
theorem y59 {s:Bs} {grp:Rd} {d:Nat} (hg:MadeA s grp 0 d):MadeA s (atomR grp s) 0 d:=by
 intro k g x q g' hk h;unfold atomR at h
 split at h
 ·injection h with h1 h2 h3
  subst h1 h2 h3;exact⟨by simp[rBegin,form,told,lev,formL],by simp[rBegin,sizeE,sizeL];omega⟩
 ·split at h
  ·injection h with h1 h2 h3
   subst h1 h2 h3;exact⟨by simp[rEnd,form,told,lev,formL],by simp[rEnd,sizeE,sizeL];omega⟩
  ·split at h
   ·injection h with h1 h2 h3
    subst h1 h2 h3;exact⟨z8g _ _ _ _,by rw[z8c];omega⟩
   ·split at h
    ·exact hg k g x q g' hk h
    ·split at h
     ·have hb:=y6v (s:=s) (k:=k+1) (by omega)
      rcases hc:cls s (k+1) with p | ⟨S,p⟩
      ·rw[hc] at h;cases h
      ·rw[hc] at h hb
       injection h with h1 h2 h3
       subst h1 h2 h3;dsimp only at hb;exact⟨z8g _ _ _ _,by rw[z8c];omega⟩
     ·rcases hc:rb sgA s k with p | ⟨c,p⟩
      ·rw[hc] at h;cases h
      ·have hb:=rb_ok (by omega) hc
       rw[hc] at h;injection h with h1 h2 h3
       subst h1 h2 h3;exact⟨z8g _ _ _ _,by rw[z8c];omega⟩
theorem z6b {x:Re} {lo hi:Int} {d g g':Nat} (h:form x 0 d g=some g') (hr:rep x=true) (hb:bound lo hi=true):form (rRep x lo hi) 1 d g=some g':=by
 unfold rRep;rw[form,if_pos ⟨by simp[lev],by simp[told,hr,hb]⟩,if_neg (by decide)];rw[show levK 6=0 from rfl,z1n];exact h
theorem z59 (x:Re) (lo hi:Int):sizeE (rRep x lo hi)=1+sizeE x:=by simp[rRep,sizeE,sizeL]
theorem y4a {s:Bs} {k p:Nat} {b:Int × Int} (h:bnds s k= .ok b p):bound b.1 b.2=true:=by
 unfold bnds at h
 rcases h1:numb s k 0 with _ | lo
 ·rw[h1] at h;cases h
 ·rw[h1] at h
  obtain⟨_,l0,l8,_⟩:=z5m h1;dsimp only at h
  split at h
  ·split at h
   ·injection h with h _
    subst h;simp[bound];omega
   ·rcases h2:numb s (k+2) lo with _ | hi
    ·rw[h2] at h;cases h
    ·rw[h2] at h
     obtain⟨_,m0,m8,_⟩:=z5m h2;dsimp only at h;unfold closeB at h
     split at h
     ·injection h with h _
      subst h;simp[bound];omega
     ·cases h
  ·unfold closeB at h
   split at h
   ·injection h with h _
    subst h;simp[bound];omega
   ·cases h
theorem y3r {s:Bs} {grp:Rd} {d:Nat} (hgd:Good s grp) (hg:MadeA s grp 0 d):MadeA s (pieceC grp s) 1 d:=by
 intro k g x q g' hk h;have hgood:=(z13 hgd k g hk).2;unfold pieceC at h
 rcases ha:atomR grp s k g with ⟨p,e⟩ | ⟨y,p,g1⟩
 ·rw[ha] at h;cases h
 ·obtain⟨hf,hs⟩:=y59 hg k g y p g1 hk ha
  have hp:=hgood y p g1 ha;rw[ha] at h;dsimp only at h;have hf1:form y 1 d g=some g1:=z4l hf (by obtain⟨kk,_,_,_,_,_⟩:=y;have:=(z1l hf).1;show lev kk≤1;omega)
  split at h
  ·rename_i hr
   unfold tailP at h
   split at h
   ·injection h with h1 h2 h3
    subst h1 h2 h3;exact⟨z6b hf hr (by decide),by rw[z59];omega⟩
   ·split at h
    ·injection h with h1 h2 h3
     subst h1 h2 h3;exact⟨z6b hf hr (by decide),by rw[z59];omega⟩
    ·split at h
     ·injection h with h1 h2 h3
      subst h1 h2 h3;exact⟨z6b hf hr (by decide),by rw[z59];omega⟩
     ·split at h
      ·rename_i h123
       have hlt:=z0r h123;have hb:=z8n (s:=s) (k:=p+1) (by omega)
       rcases hc:bnds s (p+1) with p2 | ⟨b,p2⟩
       ·rw[hc] at h;cases h
       ·have hbb:=y4a hc
        rw[hc] at h hb;injection h with h1 h2 h3
        subst h1 h2 h3;dsimp only at hb;exact⟨z6b hf hr hbb,by rw[z59];omega⟩
      ·injection h with h1 h2 h3
       subst h1 h2 h3;exact⟨hf1,hs⟩
  ·injection h with h1 h2 h3
   subst h1 h2 h3;exact⟨hf1,hs⟩
theorem y0d {s:Bs} {pc:Rd} {d:Nat} (hgd:Good s pc) (hp:MadeA s pc 1 d) {k0 g0:Nat}:∀ (n k g:Nat) (acc:List Re),s.length - k<n→k≤s.length→formL acc 1 d g0=some g→sizeL acc+2 * k0≤2 * k→∀ l q g',rowL pc s k g acc= .ok l q g'→formL l 1 d g0=some g'∧sizeL l+2 * k0≤2 * q
 | 0,k,g,acc,h,_,_,_=>by omega
 | n+1,k,g,acc,h,hk,hf,hs=>by
   intro l q g' hr
   cases hst:stops s k with
   | true=>
     rw[z2m hst] at hr;injection hr with h1 h2 h3
     subst h1 h2 h3;exact⟨hf,hs⟩
   | false=>
     have hlt:=z4u hst
     rcases ha:pc k g with ⟨p,e⟩ | ⟨y,p,g1⟩
     ·rw[z2b hst ha] at hr;cases hr
     ·have hb:=(hgd k g hlt).2 y p g1 ha
      obtain⟨h1,h2⟩:=hp k g y p g1 hlt ha;rw[z27 hst ha hb] at hr;exact y0d hgd hp n p g1 (acc++[y]) (by omega) hb.2 (z4c hf h1) (by rw[z5b];omega) l q g' hr
theorem y42 {l:List Re} {d g g':Nat} (h:formL l 1 d g=some g'):form (mkRow l) 2 d g=some g':=by
 match l,h with
 | [],h=>
   rw[formL] at h;injection h with h
   subst h;simp[mkRow,form,told,lev,formL]
 | [r],h=>
   rw[z1n] at h;obtain⟨kk,S,ks,lo,hi,n⟩:=r;have:=(z1l h).1;exact z4l h (by show lev kk≤2;omega)
 | a::b::l,h=>
   show form (.mk 4 none4 (a::b::l) 0 0 0) 2 d g=some g';rw[form,if_pos ⟨by simp[lev],by simp[told]⟩,if_neg (by decide)];exact h
theorem y90 (l:List Re):sizeE (mkRow l)≤sizeL l+1:=by
 match l with
 | []=>simp[mkRow,sizeE,sizeL]
 | [r]=>simp[mkRow,sizeL]
 | a::b::l=>show sizeE (.mk 4 none4 (a::b::l) 0 0 0)≤_;rw[sizeE];omega
theorem y3x {s:Bs} {pc:Rd} {d:Nat} (hgd:Good s pc) (hp:MadeA s pc 1 d):MadeE s (rowOf pc s) 2 d:=by
 intro k g x q g' hk h;unfold rowOf at h
 rcases ha:rowL pc s k g [] with ⟨p,e⟩ | ⟨l,p,g1⟩
 ·rw[ha] at h;cases h
 ·rw[ha] at h
  injection h with h1 h2 h3
  subst h1 h2 h3;obtain⟨hf,hs⟩:=y0d hgd hp (k0:=k) (g0:=g) _ k g [] (Nat.lt_succ_self _) hk (by rw[formL]) (by simp[sizeL]) _ _ _ ha;have:=y90 l;exact⟨y42 hf,by omega⟩
theorem z9f {s:Bs} {rw_:Rd} {d:Nat} (hgd:GoodE s rw_) (hp:MadeE s rw_ 2 d) {k0 g0:Nat}:∀ (n k g:Nat) (acc:List Re),s.length - k<n→k≤s.length→formL acc 2 d g0=some g→sizeL acc+2 * k0+(if acc=[] then 0 else 1)≤2 * k→∀ l q g',altL rw_ s k g acc= .ok l q g'→formL l 2 d g0=some g'∧l≠[]∧sizeL l+2 * k0+(if l.length=1 then 0 else 1)≤2 * q+1
 | 0,k,g,acc,h,_,_,_=>by omega
 | n+1,k,g,acc,h,hk,hf,hs=>by
   intro l q g' hr
   rcases ha:rw_ k g with ⟨p,e⟩ | ⟨y,p,g1⟩
   ·rw[z3f ha] at hr;cases hr
   ·have hb:=(hgd k g hk).2 y p g1 ha
    obtain⟨h1,h2⟩:=hp k g y p g1 hk ha;by_cases hc:s[p]?=some 124
    ·have hlt:=z0r hc
     rw[z4m ha hc hb.1] at hr;exact z9f hgd hp n (p+1) g1 (acc++[y]) (by omega) (by omega) (z4c hf h1) (by rw[z5b,if_neg (by simp)];split at hs <;> omega) l q g' hr
    ·rw[z3e ha hc] at hr
     injection hr with h3 h4 h5
     subst h3 h4 h5;refine⟨z4c hf h1,by simp,?_⟩;rw[z5b];by_cases h0:acc=[]
     ·subst h0
      rw[if_pos rfl] at hs;rw[if_pos (by rfl)];omega
     ·have:(acc++[y]).length≠1:=by
       rw[List.length_append];have:=List.length_pos_iff.2 h0;simp;omega
      rw[if_neg h0] at hs;rw[if_neg this];omega
theorem y3w {s:Bs} {rw_:Rd} {d:Nat} (hgd:GoodE s rw_) (hp:MadeE s rw_ 2 d):MadeE s (altOf rw_ s) 3 d:=by
 intro k g x q g' hk h;unfold altOf at h
 rcases ha:altL rw_ s k g [] with ⟨p,e⟩ | ⟨l,p,g1⟩
 ·rw[ha] at h;cases h
 ·rw[ha] at h
  injection h with h1 h2 h3
  subst h1 h2 h3;obtain⟨hf,hn,hs⟩:=z9f hgd hp (k0:=k) (g0:=g) _ k g [] (Nat.lt_succ_self _) hk (by rw[formL]) (by simp[sizeL]) _ _ _ ha
  match l,hn,hf,hs with
  | [r],_,hf,hs=>
    rw[z1n] at hf;rw[if_pos (show [r].length=1 from rfl)] at hs;obtain⟨kk,S,ks,lo,hi,n⟩:=r;have:=(z1l hf).1;refine⟨z4l hf (by show lev kk≤3;omega),?_⟩;simp only[sizeL] at hs;show sizeE (.mk kk S ks lo hi n)+2 * k≤_;omega
  | a::b::l,_,hf,hs=>
    rw[if_neg (by simp)] at hs;refine⟨?_,?_⟩
    ·show form (.mk 5 none4 (a::b::l) 0 0 0) 3 d g=some _
     rw[form,if_pos ⟨by simp[lev],by simp[told]⟩,if_neg (by decide)];exact hf
    ·show sizeE (.mk 5 none4 (a::b::l) 0 0 0)+2 * k≤_
     rw[sizeE];omega
theorem y8v {x:Re} {d g g':Nat} (hd:d<64) (h:form x 3 (d+1) (g+1)=some g'):form (rGrp x (num (g+1))) 0 d g=some g':=by
 unfold rGrp;rw[form,if_pos ⟨by simp[lev],by simp[told]⟩,if_pos rfl,if_pos ⟨rfl,hd⟩,z1n];exact h
theorem y6w {s:Bs}:∀ m d,m+d=64→MadeA s (grpC s m) 0 d
 | 0,d,_=>by
   intro k g x q g' hk h
   cases h
 | m+1,d,hm=>by
   intro k g x q g' hk h;have hgd:=z11 (s:=s) (pc:=fun grp=>pieceC grp s) (fun _ h=>z1w h) m;have he:=y3w (z1h (z1w hgd)) (y3x (z1w hgd) (y3r hgd (y6w m (d+1) (by omega))));unfold grpC at h;rw[z2y] at h;unfold grpR at h
   rcases ha:exM (fun grp=>pieceC grp s) s m (k+1) (g+1) with ⟨p,e⟩ | ⟨y,p,g1⟩
   ·rw[ha] at h;cases h
   ·obtain⟨hf,hs⟩:=he (k+1) (g+1) y p g1 (by omega) ha
    rw[ha] at h;dsimp only at h
    split at h
    ·injection h with h1 h2 h3
     subst h1 h2 h3;refine⟨y8v (by omega) hf,?_⟩;have:sizeE (rGrp y (num (g+1)))=1+sizeE y:=by simp[rGrp,sizeE,sizeL]
     omega
    ·cases h
theorem y58 {grp:Rd} {s:Bs} {q:Nat} (g:Nat) (h:signAt s q):atomR grp s q g= .bad q 1:=by
 obtain⟨c,hc,hs⟩:=h
 have hne:∀ d:UInt8,d∈([94,36,46,40,91]:Bs)→s[q]?≠some d:=by
  intro d hd e;rw[hc] at e;injection e with e
  subst e
  revert hs hd
  simp[sgR];rintro(rfl | rfl | rfl | rfl) <;> simp
 unfold atomR;rw[if_neg (hne 94 (by decide)),if_neg (hne 36 (by decide)),if_neg (hne 46 (by decide)),if_neg (hne 40 (by decide)),if_neg (hne 91 (by decide)),x0b,hc];have h92:c≠92:=by rintro rfl;revert hs;decide
 have hA:c∈sgA:=by revert hs;simp[sgR,sgA];rintro(rfl | rfl | rfl | rfl) <;> simp
 dsimp only;rw[if_neg h92,if_pos hA]
theorem z7d {s:Bs} {q:Nat} (h:signAt s q):stops s q=false:=by
 obtain⟨c,hc,hs⟩:=h;unfold stops;rw[hc];dsimp only
 revert hs
 simp[sgR];rintro(rfl | rfl | rfl | rfl) <;> decide
theorem z6k {s:Bs} {g1 g2:Rd} (hgd:Good s g1) (he:∀ k g,k<s.length→g1 k g=g2 k g):∀ (n k g:Nat) (acc:List Re),s.length - k<n→k≤s.length→rowL (pieceC g1 s) s k g acc=rowL (pieceR g2 s) s k g acc
 | 0,k,g,acc,h,_=>by omega
 | n+1,k,g,acc,h,hk=>by
   cases hst:stops s k with
   | true=>rw[z2m hst,z2m hst]
   | false=>
     have hlt:=z4u hst
     have hat:atomR g1 s k g=atomR g2 s k g:=by
      unfold atomR;rw[he k g hlt]
     have hgood:=z13 hgd k g hlt
     have hp1:pieceC g1 s k g=match atomR g1 s k g with
      | .bad q e=> .bad q e
      | .ok x q g'=>if rep x=true then tailP s x q g' else .ok x q g':=rfl
     have hp2:pieceR g2 s k g=match atomR g1 s k g with
      | .bad q e=> .bad q e
      | .ok x q g'=>if rep x=true then tailP s x q g' else @ite _ (signAt s q) (Classical.propDecidable _) (.bad q 1) (.ok x q g'):=by rw[hat];rfl
     rcases ha:atomR g1 s k g with ⟨p,e⟩ | ⟨y,p,gg⟩
     ·rw[ha] at hp1 hp2
      rw[z2b hst hp1,z2b hst hp2]
     ·have hb:=hgood.2 y p gg ha
      rw[ha] at hp1 hp2;dsimp only at hp1 hp2;by_cases hr:rep y=true
      ·rw[if_pos hr] at hp1 hp2
       have ht:=z5p (s:=s) (x:=y) (g:=gg) hb.1 hb.2
       rcases hta:tailP s y p gg with ⟨p2,e2⟩ | ⟨y2,p2,gg2⟩
       ·rw[hta] at hp1 hp2
        rw[z2b hst hp1,z2b hst hp2]
       ·rw[hta] at hp1 hp2
        have hb2:=ht.2 y2 p2 gg2 hta;rw[z27 hst hp1 hb2,z27 hst hp2 hb2];exact z6k hgd he n p2 gg2 _ (by omega) hb2.2
      ·rw[if_neg hr] at hp1 hp2
       by_cases hs:signAt s p
       ·rw[if_pos hs] at hp2
        rw[z2b hst hp2,z27 hst hp1 hb,z2b (z7d hs) (by unfold pieceC;rw[y58 gg hs])]
       ·rw[if_neg hs] at hp2
        rw[z27 hst hp1 hb,z27 hst hp2 hb];exact z6k hgd he n p gg _ (by omega) hb.2
theorem z7y {s:Bs} {g1 g2:Rd} (hgd:Good s g1) (he:∀ k g,k<s.length→g1 k g=g2 k g) (k g:Nat) (hk:k≤s.length):rowOf (pieceC g1 s) s k g=rowOf (pieceR g2 s) s k g:=by
 unfold rowOf;rw[z6k hgd he _ k g [] (Nat.lt_succ_self _) hk]
theorem z9q {s:Bs} {r1 r2:Rd} (hgd:GoodE s r1) (he:∀ k g,k≤s.length→r1 k g=r2 k g):∀ (n k g:Nat) (acc:List Re),s.length - k<n→k≤s.length→altL r1 s k g acc=altL r2 s k g acc
 | 0,k,g,acc,h,_=>by omega
 | n+1,k,g,acc,h,hk=>by
   have e:=he k g hk
   rcases ha:r1 k g with ⟨p,er⟩ | ⟨y,p,gg⟩
   ·rw[z3f ha,z3f (e.symm.trans ha)]
   ·have hb:=(hgd k g hk).2 y p gg ha
    by_cases hc:s[p]?=some 124
    ·have hlt:=z0r hc
     rw[z4m ha hc hb.1,z4m (e.symm.trans ha) hc hb.1];exact z9q hgd he n (p+1) gg _ (by omega) (by omega)
    ·rw[z3e ha hc,z3e (e.symm.trans ha) hc]
theorem z7i {s:Bs} {r1 r2:Rd} (hgd:GoodE s r1) (he:∀ k g,k≤s.length→r1 k g=r2 k g) (k g:Nat) (hk:k≤s.length):altOf r1 s k g=altOf r2 s k g:=by
 unfold altOf;rw[z9q hgd he _ k g [] (Nat.lt_succ_self _) hk]
noncomputable abbrev grpRR (s:Bs) (m:Nat):Rd:=grpM (fun grp=>pieceR grp s) s m
theorem y2k (s:Bs):∀ m k g,k<s.length→grpC s m k g=grpRR s m k g
 | 0,k,g,_=>rfl
 | m+1,k,g,hk=>by
   have hgd:=z11 (s:=s) (pc:=fun grp=>pieceC grp s) (fun _ h=>z1w h) m
   have e:exM (fun grp=>pieceC grp s) s m (k+1) (g+1)=exM (fun grp=>pieceR grp s) s m (k+1) (g+1):=
    z7i (z1h (z1w hgd)) (fun k g hk=>z7y hgd (y2k s m) k g hk) (k+1) (g+1) (by omega)
   show grpM _ s (m+1) k g=grpM _ s (m+1) k g;rw[z2y,z2y];unfold grpR;rw[e]
theorem x18 (s:Bs) (m k g:Nat) (hk:k≤s.length):exC s m k g=exR s m k g:=
 have hgd:=z11 (s:=s) (pc:=fun grp=>pieceC grp s) (fun _ h=>z1w h) m
 z7i (z1h (z1w hgd)) (fun k g hk=>z7y hgd (y2k s m) k g hk) k g hk
def RightP (r:Re):Prop:=(∃ g,form r 3 0 0=some g)∧(textE r).length≤200
theorem y1o (r:Re):(printE r).2=0 ↔ RightP r:=by
 unfold printE RightP
 cases hf:form r 3 0 0 with
 | none=>simp
 | some g=>
   dsimp only;by_cases hl:200<(textE r).length
   ·rw[if_pos hl];simp;omega
   ·rw[if_neg hl];simp;omega
end Go.Proofs.YtejgbpbljdhndaaDoor
