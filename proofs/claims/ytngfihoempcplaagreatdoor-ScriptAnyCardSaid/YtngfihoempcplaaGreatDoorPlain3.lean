import Derived.WalkKit
namespace Go.Proofs.YtngfihoempcplaaGreatDoor
open Go Go.RowKit
abbrev Bs:=List UInt8
abbrev Pt:=List UInt8 × List UInt8
theorem z5c (P:UInt8→Prop) (h:∀ n,n<256→P (UInt8.ofNat n)) (c:UInt8):P c:=by
 have:=h c.toNat (UInt8.toNat_lt c);rwa [UInt8.ofNat_toNat] at this
def isDig (c:UInt8):Bool:=decide (48≤(c.toNat:Int)∧(c.toNat:Int)≤57)
def isLow (c:UInt8):Bool:=decide (97≤(c.toNat:Int)∧(c.toNat:Int)≤122)
def isIn (c:UInt8):Bool:=isLow c || isDig c || decide ((c.toNat:Int)=95)
def plainB (c:UInt8):Bool:=decide (32≤(c.toNat:Int)∧(c.toNat:Int)≤126∧¬ (c.toNat:Int)=34∧¬ (c.toNat:Int)=92∧¬ (c.toNat:Int)=36)
def hexD (c:UInt8):Int:=if 48≤(c.toNat:Int)∧(c.toNat:Int)≤57 then (c.toNat:Int) - 48 else if 97≤(c.toNat:Int)∧(c.toNat:Int)≤102 then (c.toNat:Int) - 87 else -1
def escD (c:UInt8):Option UInt8:=if c=110 then some 10 else if c=114 then some 13 else if c=116 then some 9 else if c=34 then some 34 else if c=92 then some 92 else if c=36 then some 36 else none
def tk:Nat→Bs→Nat
 | 0,_=>0
 | _+1,[]=>0
 | k+1,c::r=>if isIn c then tk k r+1 else 0
def nameLen:Bs→Nat
 | []=>0
 | c::r=>if isDig c then 1 else if isLow c then tk 7 r+1 else 0
def isName (l:Bs):Bool:= !l.isEmpty && decide (nameLen l=l.length)
inductive Step where
 | bad (k:Nat) | stop | var (nm:Bs) (k:Nat) | byte (c:UInt8) (k:Nat)
def stepVar:Bs→Step
 | []=> .bad 1
 | c::r=>if c=123 then (if nameLen r=0 then .bad 2 else match r.drop (nameLen r) with
  | []=> .bad (2+nameLen r)
  | d::_=>if d=125 then .var (r.take (nameLen r)) (nameLen r+3) else .bad (2+nameLen r)) else .bad 1
def stepHex:Bs→Step
 | []=> .bad 2
 | h::r=>if hexD h<0 then .bad 2 else match r with
   | []=> .bad 3
   | l::_=>if hexD l<0 then .bad 3 else .byte (UInt8.ofNat (hexD h * 16+hexD l).toNat) 4
def stepEsc:Bs→Step
 | []=> .bad 1
 | c::r=>if c=120 then stepHex r else match escD c with
   | some b=> .byte b 2
   | none=> .bad 1
def step:Bs→Step
 | []=> .bad 0
 | c::r=>if c=34 then .stop else if c=36 then stepVar r else if c=92 then stepEsc r else if plainB c then .byte c 1 else .bad 0
def flush (ps:List Pt) (t:Bs):List Pt:=if t=[] then ps else ps++[([],t)]
def go:Nat→Bs→Nat→List Pt→Bs→Option (List Pt) × Nat
 | 0,_,pos,_,_=>(none,pos)
 | f+1,r,pos,ps,t=>match step r with
   | .bad k=>(none,pos+k)
   | .stop=>(some (flush ps t),pos+1)
   | .var nm k=>go f (r.drop k) (pos+k) (flush ps t++[(nm,[])]) []
   | .byte c k=>go f (r.drop k) (pos+k) ps (t++[c])
def parse:Bs→Option (List Pt) × Nat
 | []=>(none,0)
 | c::r=>if c=34 then go (r.length+1) r 1 [] [] else (none,0)
def hexC (n:Nat):UInt8:=if n<10 then UInt8.ofNat (48+n) else UInt8.ofNat (87+n)
def prB (c:UInt8):Bs:=if plainB c then [c] else if c=10 then [92,110] else if c=13 then [92,114] else if c=9 then [92,116] else if c=34 then [92,34] else if c=92 then [92,92] else if c=36 then [92,36]
 else [92,120,hexC (c.toNat / 16),hexC (c.toNat % 16)]
def prV (nm:Bs):Bs:=if nm=[] then [] else 36::123::(nm++[125])
def prP (p:Pt):Bs:=prV p.1++p.2.flatMap prB
def print (ps:List Pt):Bs:=34::(ps.flatMap prP++[34])
def okP (b:Bool) (p:Pt):Bool:=if p.1=[] then !p.2.isEmpty && !b else p.2.isEmpty && isName p.1
def may:Bool→List Pt→Bool
 | _,[]=>true
 | b,p::r=>okP b p && may (decide (p.1=[])) r
theorem z2a (k:Nat) (c:UInt8) (r:Bs):tk (k+1) (c::r)=if isIn c then tk k r+1 else 0:=rfl
theorem z05 (c:UInt8) (r:Bs):nameLen (c::r)=if isDig c then 1 else if isLow c then tk 7 r+1 else 0:=rfl
theorem tk_le:∀ (k:Nat) (l:Bs),tk k l≤l.length∧tk k l≤k
 | 0,l=>by simp[tk]
 | k+1,[]=>by simp[tk]
 | k+1,c::r=>by
   have:=tk_le k r;rw[z2a];split
   ·simp;omega
   ·simp
theorem y90:∀ (k:Nat) (l m:Bs),(tk k l<l.length∨tk k l=k)→tk k (l++m)=tk k l
 | 0,l,m,_=>by simp[tk]
 | k+1,[],m,h=>by simp[tk] at h
 | k+1,c::r,m,h=>by
   rw[z2a] at h;rw[List.cons_append,z2a,z2a];by_cases hc:isIn c=true
   ·simp only[hc,if_true] at h ⊢
    have:=y90 k r m (by simp at h;omega);omega
   ·simp[hc]
theorem y9x:∀ (k:Nat) (l:Bs) (n:Nat),tk k l≤n→n≤l.length→tk k (l.take n)=tk k l
 | 0,l,n,_,_=>by simp[tk]
 | k+1,[],n,_,_=>by simp[tk]
 | k+1,c::r,0,h,_=>by
   rw[z2a] at h ⊢;by_cases hc:isIn c=true
   ·simp[hc] at h
   ·simp[hc,tk]
 | k+1,c::r,n+1,h,hn=>by
   rw[z2a] at h;rw[List.take_succ_cons,z2a,z2a];by_cases hc:isIn c=true
   ·simp only[hc,if_true] at h ⊢
    rw[y9x k r n (by omega) (by simpa using hn)]
   ·simp[hc]
theorem z3f (l:Bs):nameLen l≤l.length∧nameLen l≤8:=by
 cases l with
 | nil=>simp[nameLen]
 | cons c r=>
   have:=tk_le 7 r;rw[z05];split
   ·simp
   ·split
    ·simp;omega
    ·simp
theorem y2e (l m:Bs) (h:nameLen l<l.length):nameLen (l++m)=nameLen l:=by
 cases l with
 | nil=>simp at h
 | cons c r=>
   rw[z05] at h;rw[List.cons_append,z05,z05];by_cases hd:isDig c=true
   ·simp[hd]
   ·by_cases hc:isLow c=true
    ·simp only[hd,hc,if_true] at h ⊢
     rw[y90 7 r m (by simp at h;omega)]
    ·simp[hd,hc]
theorem z6b (l:Bs) (n:Nat) (h:nameLen l≤n) (h0:0<n) (hn:n≤l.length):nameLen (l.take n)=nameLen l:=by
 cases l with
 | nil=>simp
 | cons c r=>
   obtain⟨n,rfl⟩:∃ k,n=k+1:=⟨n - 1,by omega⟩;rw[z05] at h;rw[List.take_succ_cons,z05,z05];by_cases hd:isDig c=true
   ·simp[hd]
   ·by_cases hc:isLow c=true
    ·simp only[hd,hc,if_true] at h ⊢
     rw[y9x 7 r n (by simp at h;omega) (by simpa using hn)]
    ·simp[hd,hc]
theorem y3k (c:UInt8): -1≤hexD c∧hexD c≤15:=by
 unfold hexD;split
 ·omega
 ·split <;> omega
theorem y2x {r nm:Bs} {k:Nat} (h:stepVar r= .var nm k):∃ n,n=nameLen r.tail∧0<n∧nm=r.tail.take n∧k=n+3∧n+1<r.length∧r.head?=some 123∧(r.tail.drop n).head?=some 125:=by
 cases r with
 | nil=>simp[stepVar] at h
 | cons c r=>
   unfold stepVar at h;dsimp only at h
   split at h
   ·rename_i hc
    split at h
    ·cases h
    ·rename_i hn
     split at h
     ·cases h
     ·rename_i d t hd
      split at h
      ·rename_i hd2
       injection h with h1 h2
       have hl:=congrArg List.length hd;simp at hl;refine⟨nameLen r,rfl,by omega,h1.symm,h2.symm,by simp;omega,by simp[hc],by simp[hd,hd2]⟩
      ·cases h
   ·cases h
theorem y27 {r:Bs} {k:Nat} (h:stepVar r= .bad k):1≤k∧k≤r.length+1:=by
 cases r with
 | nil=>simp[stepVar] at h;subst h;simp
 | cons c r=>
   have:=z3f r;unfold stepVar at h;dsimp only at h
   split at h
   ·split at h
    ·injection h with h;subst h;simp
    ·split at h
     ·injection h with h;subst h;simp;omega
     ·split at h
      ·cases h
      ·injection h with h;subst h;simp;omega
   ·injection h with h;subst h;simp
theorem y2g (r:Bs) (d:UInt8) (t t':Bs) (h:nameLen (r++d::t)=r.length) (h0:r≠[]):nameLen (r++d::t')=r.length:=by
 have hl:0<r.length:=List.length_pos_iff.2 h0;have h1:=z6b (r++d::t) (r.length+1) (by omega) (by omega) (by simp)
 have e:(r++d::t).take (r.length+1)=r++[d]:=by
  rw[List.take_append,List.take_of_length_le (by omega)];simp
 rw[e,h] at h1;have h2:=y2e (r++[d]) t' (by simp;omega);rw[h1] at h2;rw[←h2];simp
theorem y1h (r:Bs) (d:UInt8) (t:Bs) (h:nameLen (r++d::t)=r.length) (h0:r≠[]):nameLen r=r.length:=by
 have hl:0<r.length:=List.length_pos_iff.2 h0;have h1:=z6b (r++d::t) r.length (by omega) hl (by simp);rw[h] at h1;simpa using h1
theorem x16 {r nm:Bs} {k:Nat} (h:stepVar r= .var nm k):∃ t,r=123::(nm++125::t)∧nameLen (nm++125::t)=nm.length∧nm≠[]∧k=nm.length+3:=by
 obtain⟨n,hn,h0,hnm,hk,hl,hh,hd⟩:=y2x h
 cases r with
 | nil=>simp at hh
 | cons c r=>
   simp only[List.tail_cons,List.head?_cons,Option.some.injEq,List.length_cons] at hn hnm hh hd hl;have hnl:nm.length=n:=by rw[hnm,List.length_take];omega
   have ht:r.drop n=125::(r.drop n).tail:=by
    cases hx:r.drop n with
    | nil=>rw[hx] at hd;simp at hd
    | cons a b=>rw[hx] at hd;simp at hd;simp[hd]
   have hr:r=nm++125::(r.drop n).tail:=by rw[←ht,hnm];exact(List.take_append_drop n r).symm
   refine⟨(r.drop n).tail,?_,?_,?_,?_⟩
   ·rw[hh];exact congrArg _ hr
   ·rw[←hr,←hn,hnl]
   ·intro e;rw[e] at hnl;simp at hnl;omega
   ·omega
theorem x45 (nm t:Bs) (h:nameLen (nm++125::t)=nm.length) (h0:nm≠[]):stepVar (123::(nm++125::t))= .var nm (nm.length+3):=by
 have hl:0<nm.length:=List.length_pos_iff.2 h0;unfold stepVar;simp only[if_true,h];rw[if_neg (by omega)];simp
theorem x0w {r:Bs} {b:UInt8} {k:Nat} (h:stepEsc r= .byte b k):(∃ c t,r=c::t∧c≠120∧escD c=some b∧k=2)∨∃ c d t,r=120::c::d::t∧0≤hexD c∧0≤hexD d∧b=UInt8.ofNat (hexD c * 16+hexD d).toNat∧k=4:=by
 cases r with
 | nil=>simp[stepEsc] at h
 | cons c r=>
   unfold stepEsc at h;dsimp only at h
   split at h
   ·rename_i hc
    subst hc
    cases r with
    | nil=>simp[stepHex] at h
    | cons x r=>
      unfold stepHex at h;dsimp only at h
      split at h
      ·cases h
      ·cases r with
       | nil=>simp at h
       | cons y r=>
         dsimp only at h
         split at h
         ·cases h
         ·injection h with h1 h2
          exact .inr ⟨x,y,r,rfl,by omega,by omega,h1.symm,h2.symm⟩
   ·rename_i hc
    split at h
    ·rename_i b' hb
     injection h with h1 h2
     exact .inl ⟨c,r,rfl,hc,by rw[hb,h1],h2.symm⟩
    ·cases h
theorem y9p (c b:UInt8) (t:Bs) (h:c≠120) (hb:escD c=some b):stepEsc (c::t)= .byte b 2:=by
 unfold stepEsc;simp only;rw[if_neg h,hb]
theorem x4y (c d:UInt8) (t:Bs) (h:0≤hexD c) (hb:0≤hexD d):stepEsc (120::c::d::t)= .byte (UInt8.ofNat (hexD c * 16+hexD d).toNat) 4:=by
 have e:stepEsc (120::c::d::t)=if hexD c<0 then .bad 2 else if hexD d<0 then .bad 3 else .byte (UInt8.ofNat (hexD c * 16+hexD d).toNat) 4:=rfl
 rw[e,if_neg (by omega),if_neg (by omega)]
theorem z7j {r:Bs} {b:UInt8} {k:Nat} (h:step r= .byte b k):(∃ t,r=b::t∧plainB b=true∧k=1)∨(∃ c t,r=92::c::t∧c≠120∧escD c=some b∧k=2)∨
  ∃ c d t,r=92::120::c::d::t∧0≤hexD c∧0≤hexD d∧b=UInt8.ofNat (hexD c * 16+hexD d).toNat∧k=4:=by
 cases r with
 | nil=>simp[step] at h
 | cons c r=>
   unfold step at h;dsimp only at h
   split at h
   ·cases h
   ·split at h
    ·exfalso
     unfold stepVar at h
     split at h
     ·cases h
     ·split at h
      ·split at h
       ·cases h
       ·split at h
        ·cases h
        ·split at h <;> cases h
      ·cases h
    ·split at h
     ·rename_i hc
      subst hc
      rcases x0w h with ⟨c,t,rfl,h1⟩ | ⟨c,d,t,rfl,h1⟩
      ·exact .inr (.inl ⟨c,t,rfl,h1⟩)
      ·exact .inr (.inr ⟨c,d,t,rfl,h1⟩)
     ·split at h
      ·rename_i hp
       injection h with h1 h2
       subst h1;exact .inl ⟨r,rfl,hp,h2.symm⟩
      ·cases h
theorem x2v {b:UInt8} (h:plainB b=true):b≠34∧b≠36∧b≠92:=by
 refine⟨?_,?_,?_⟩ <;> (rintro rfl;revert h;decide)
theorem z5v (b:UInt8) (t:Bs) (h:plainB b=true):step (b::t)= .byte b 1:=by
 obtain⟨h1,h2,h3⟩:=x2v h;unfold step;simp[h1,h2,h3,h]
theorem z6i (t:Bs):step (92::t)=stepEsc t:=by unfold step;simp
theorem z4k (t:Bs):step (36::t)=stepVar t:=by unfold step;simp
theorem z9d (t:Bs):step (34::t)= .stop:=by unfold step;simp
theorem z28 {r:Bs} (h:step r= .stop):∃ t,r=34::t:=by
 cases r with
 | nil=>simp[step] at h
 | cons c r=>
   by_cases hc:c=34
   ·exact⟨r,by rw[hc]⟩
   ·exfalso
    unfold step at h;dsimp only at h;rw[if_neg hc] at h
    split at h
    ·unfold stepVar at h
     split at h
     ·cases h
     ·split at h
      ·split at h
       ·cases h
       ·split at h
        ·cases h
        ·split at h <;> cases h
      ·cases h
    ·split at h
     ·unfold stepEsc at h
      split at h
      ·cases h
      ·split at h
       ·unfold stepHex at h
        split at h
        ·cases h
        ·split at h
         ·cases h
         ·split at h
          ·cases h
          ·split at h <;> cases h
       ·split at h <;> cases h
     ·split at h <;> cases h
theorem z3t {r nm:Bs} {k:Nat} (h:step r= .var nm k):∃ t,r=36::123::(nm++125::t)∧nameLen (nm++125::t)=nm.length∧nm≠[]∧k=nm.length+3:=by
 cases r with
 | nil=>simp[step] at h
 | cons c r=>
   unfold step at h;dsimp only at h
   split at h
   ·cases h
   ·split at h
    ·rename_i hc
     obtain⟨t,hr,h1⟩:=x16 h;exact⟨t,by rw[hc,hr],h1⟩
    ·exfalso
     split at h
     ·unfold stepEsc at h
      split at h
      ·cases h
      ·split at h
       ·unfold stepHex at h
        split at h
        ·cases h
        ·split at h
         ·cases h
         ·split at h
          ·cases h
          ·split at h <;> cases h
       ·split at h <;> cases h
     ·split at h <;> cases h
theorem x13 (nm t:Bs) (h:nameLen (nm++125::t)=nm.length) (h0:nm≠[]):step (36::123::(nm++125::t))= .var nm (nm.length+3):=by
 rw[z4k,x45 nm t h h0]
theorem z23 {r:Bs} {b:UInt8} {k:Nat} (h:step r= .byte b k):0<k∧k≤r.length∧∀ X,step (r.take k++X)= .byte b k:=by
 rcases z7j h with ⟨t,rfl,hp,rfl⟩ | ⟨c,t,rfl,hc,hb,rfl⟩ | ⟨c,d,t,rfl,hc,hd,rfl,rfl⟩
 ·exact⟨by omega,by simp,fun X=>z5v b X hp⟩
 ·exact⟨by omega,by simp,fun X=>by simp only[List.take_succ_cons,List.take_zero,List.cons_append,List.nil_append];rw[z6i,y9p c b X hc hb]⟩
 ·exact⟨by omega,by simp,fun X=>by simp only[List.take_succ_cons,List.take_zero,List.cons_append,List.nil_append];rw[z6i,x4y c d X hc hd]⟩
theorem z3x {r nm:Bs} {k:Nat} (h:step r= .var nm k):0<k∧k≤r.length∧∀ X,step (r.take k++X)= .var nm k:=by
 obtain⟨t,rfl,hn,h0,rfl⟩:=z3t h;refine⟨by omega,by simp,fun X=>?_⟩
 have e:(36::123::(nm++125::t)).take (nm.length+3)++X=36::123::(nm++125::X):=by
  simp[List.take_append,List.take_of_length_le]
 rw[e];exact x13 nm X (y2g nm 125 t X hn h0) h0
theorem x40 {r:Bs} {k:Nat} (h:step r= .bad k):k≤r.length:=by
 cases r with
 | nil=>simp[step] at h;omega
 | cons c r=>
   unfold step at h;dsimp only at h
   split at h
   ·cases h
   ·split at h
    ·have:=y27 h;simp;omega
    ·split at h
     ·unfold stepEsc at h
      split at h
      ·injection h with h;subst h;simp
      ·split at h
       ·unfold stepHex at h
        split at h
        ·injection h with h;subst h;simp
        ·split at h
         ·injection h with h;subst h;simp
         ·split at h
          ·injection h with h;subst h;simp
          ·split at h
           ·injection h with h;subst h;simp
           ·cases h
       ·split at h
        ·cases h
        ·injection h with h;subst h;simp
     ·split at h
      ·cases h
      ·injection h with h;subst h;simp
theorem z9m:∀ (f g:Nat) (r:Bs) (pos:Nat) (ps:List Pt) (t:Bs),r.length<f→r.length<g→go f r pos ps t=go g r pos ps t
 | 0,_,_,_,_,_,h,_=>by omega
 | _,0,_,_,_,_,_,h=>by omega
 | f+1,g+1,r,pos,ps,t,hf,hg=>by
   unfold go
   split
   ·rfl
   ·rfl
   ·rename_i nm k h
    obtain⟨h0,h1,_⟩:=z3x h;exact z9m f g _ _ _ _ (by rw[List.length_drop];omega) (by rw[List.length_drop];omega)
   ·rename_i c k h
    obtain⟨h0,h1,_⟩:=z23 h;exact z9m f g _ _ _ _ (by rw[List.length_drop];omega) (by rw[List.length_drop];omega)
def goN (r:Bs) (pos:Nat) (ps:List Pt) (t:Bs):Option (List Pt) × Nat:=go (r.length+1) r pos ps t
theorem z2p {r:Bs} {k:Nat} (h:step r= .bad k) (pos:Nat) (ps:List Pt) (t:Bs):goN r pos ps t=(none,pos+k):=by
 unfold goN go;rw[h]
theorem z39 {r:Bs} (h:step r= .stop) (pos:Nat) (ps:List Pt) (t:Bs):goN r pos ps t=(some (flush ps t),pos+1):=by
 unfold goN go;rw[h]
theorem z55 {r nm:Bs} {k:Nat} (h:step r= .var nm k) (pos:Nat) (ps:List Pt) (t:Bs):goN r pos ps t=goN (r.drop k) (pos+k) (flush ps t++[(nm,[])]) []:=by
 obtain⟨h0,h1,_⟩:=z3x h;unfold goN;rw[show go (r.length+1) r pos ps t=go r.length (r.drop k) (pos+k) (flush ps t++[(nm,[])]) [] by rw[go,h]];exact z9m _ _ _ _ _ _ (by rw[List.length_drop];omega) (by omega)
theorem z3n {r:Bs} {c:UInt8} {k:Nat} (h:step r= .byte c k) (pos:Nat) (ps:List Pt) (t:Bs):goN r pos ps t=goN (r.drop k) (pos+k) ps (t++[c]):=by
 obtain⟨h0,h1,_⟩:=z23 h;unfold goN;rw[show go (r.length+1) r pos ps t=go r.length (r.drop k) (pos+k) ps (t++[c]) by rw[go,h]];exact z9m _ _ _ _ _ _ (by rw[List.length_drop];omega) (by omega)
theorem z2b (r:Bs):parse (34::r)=goN r 1 [] []:=by unfold parse goN;simp
theorem z38 (c:UInt8) (r:Bs) (h:c≠34):parse (c::r)=(none,0):=by unfold parse;simp[h]
theorem z2z (r:Bs):(∃ k,step r= .bad k)∨step r= .stop∨(∃ nm k,step r= .var nm k)∨∃ c k,step r= .byte c k:=by
 cases h:step r with
 | bad k=>exact .inl ⟨k,rfl⟩
 | stop=>exact .inr (.inl rfl)
 | var nm k=>exact .inr (.inr (.inl ⟨nm,k,rfl⟩))
 | byte c k=>exact .inr (.inr (.inr ⟨c,k,rfl⟩))
theorem z5q {P:Bs→Nat→List Pt→Bs→Prop} (hb:∀ r k pos ps t,step r= .bad k→P r pos ps t) (hs:∀ r pos ps t,step r= .stop→P r pos ps t)
  (hv:∀ r nm k pos ps t,step r= .var nm k→0<k→k≤r.length→P (r.drop k) (pos+k) (flush ps t++[(nm,[])]) []→P r pos ps t)
  (hc:∀ r c k pos ps t,step r= .byte c k→0<k→k≤r.length→P (r.drop k) (pos+k) ps (t++[c])→P r pos ps t):
  ∀ (n:Nat) (r:Bs) (pos:Nat) (ps:List Pt) (t:Bs),r.length<n→P r pos ps t
 | 0,r,_,_,_,h=>by omega
 | n+1,r,pos,ps,t,hl=>by
   rcases z2z r with ⟨k,h⟩ | h | ⟨nm,k,h⟩ | ⟨c,k,h⟩
   ·exact hb r k pos ps t h
   ·exact hs r pos ps t h
   ·obtain⟨h0,h1,_⟩:=z3x h
    exact hv r nm k pos ps t h h0 h1 (z5q hb hs hv hc n _ _ _ _ (by rw[List.length_drop];omega))
   ·obtain⟨h0,h1,_⟩:=z23 h
    exact hc r c k pos ps t h h0 h1 (z5q hb hs hv hc n _ _ _ _ (by rw[List.length_drop];omega))
theorem x5s (r:Bs) (pos:Nat) (ps:List Pt) (t:Bs):pos≤(goN r pos ps t).2∧(goN r pos ps t).2≤pos+r.length∧
  ((goN r pos ps t).1.isSome→pos<(goN r pos ps t).2∧r[(goN r pos ps t).2 - 1 - pos]?=some 34):=by
 refine z5q (P:=fun r pos ps t=>pos≤(goN r pos ps t).2∧(goN r pos ps t).2≤pos+r.length∧((goN r pos ps t).1.isSome→pos<(goN r pos ps t).2∧r[(goN r pos ps t).2 - 1 - pos]?=some 34)) ?_ ?_ ?_ ?_ (r.length+1) r pos ps t (Nat.lt_succ_self _)
 ·intro r k pos ps t h
  rw[z2p h];have:=x40 h;exact⟨by simp,by simpa using this,fun h=>by simp at h⟩
 ·intro r pos ps t h
  rw[z39 h];obtain⟨t',rfl⟩:=z28 h;exact⟨by simp,by simp,fun _=>⟨by simp,by simp⟩⟩
 ·intro r nm k pos ps t h h0 h1 ih
  rw[z55 h];obtain⟨a,b,c⟩:=ih;rw[List.length_drop] at b;refine⟨by omega,by omega,fun hs=>?_⟩;obtain⟨c1,c2⟩:=c hs;rw[List.getElem?_drop] at c2;refine⟨by omega,?_⟩;rw[←c2];congr 1;omega
 ·intro r c k pos ps t h h0 h1 ih
  rw[z3n h];obtain⟨a,b,c⟩:=ih;rw[List.length_drop] at b;refine⟨by omega,by omega,fun hs=>?_⟩;obtain⟨c1,c2⟩:=c hs;rw[List.getElem?_drop] at c2;refine⟨by omega,?_⟩;rw[←c2];congr 1;omega
theorem z6l (l:Bs):(parse l).2≤l.length∧((parse l).1.isSome→0<(parse l).2∧l[(parse l).2 - 1]?=some 34):=by
 cases l with
 | nil=>exact⟨by simp[parse],fun h=>by simp[parse] at h⟩
 | cons c r=>
   by_cases hc:c=34
   ·subst hc
    rw[z2b];obtain⟨a,b,d⟩:=x5s r 1 [] [];refine⟨by simp;omega,fun h=>?_⟩;obtain⟨d1,d2⟩:=d h;refine⟨by omega,?_⟩;generalize (goN r 1 [] []).2=n at a b d1 d2 ⊢;obtain⟨k,rfl⟩:∃ k,n=k+2:=⟨n - 2,by omega⟩;simpa using d2
   ·rw[z38 c r hc];exact⟨by simp,fun h=>by simp at h⟩
def lastT:Bool→List Pt→Bool
 | b,[]=>b
 | _,p::r=>lastT (decide (p.1=[])) r
theorem z5x:∀ (b:Bool) (ps:List Pt) (p:Pt),may b (ps++[p])=(may b ps && okP (lastT b ps) p)
 | b,[],p=>by simp[may,lastT]
 | b,q::r,p=>by rw[List.cons_append,may,may,z5x _ r p,lastT,Bool.and_assoc]
theorem z59:∀ (b:Bool) (ps:List Pt) (p:Pt),lastT b (ps++[p])=decide (p.1=[])
 | b,[],p=>by simp[lastT]
 | b,q::r,p=>by rw[List.cons_append,lastT,z59 _ r p]
theorem y1z {ps:List Pt} {t:Bs} (h:may false ps=true) (hl:lastT false ps=false):may false (flush ps t)=true:=by
 unfold flush;split
 ·exact h
 ·rename_i ht;rw[z5x,h,hl];simp[okP,ht]
theorem x0n {nm t:Bs} (h:nameLen (nm++125::t)=nm.length) (h0:nm≠[]):isName nm=true:=by
 unfold isName;rw[y1h nm 125 t h h0];simp[h0]
theorem x3n (r:Bs) (pos:Nat) (ps:List Pt) (t:Bs):may false ps=true→lastT false ps=false→∀ out,(goN r pos ps t).1=some out→may false out=true:=by
 refine z5q (P:=fun r pos ps t=>may false ps=true→lastT false ps=false→∀ out,(goN r pos ps t).1=some out→may false out=true) ?_ ?_ ?_ ?_ (r.length+1) r pos ps t (Nat.lt_succ_self _)
 ·intro r k pos ps t h _ _ out ho
  rw[z2p h] at ho;cases ho
 ·intro r pos ps t h hm hl out ho
  rw[z39 h] at ho;injection ho with ho;subst ho
  exact y1z hm hl
 ·intro r nm k pos ps t h h0 h1 ih hm hl out ho
  rw[z55 h] at ho;obtain⟨x,rfl,hn,hne,_⟩:=z3t h;refine ih ?_ ?_ out ho
  ·rw[z5x,y1z hm hl];simp[okP,hne,x0n hn hne]
  ·rw[z59];simp[hne]
 ·intro r c k pos ps t h h0 h1 ih hm hl out ho
  rw[z3n h] at ho;exact ih hm hl out ho
theorem y9j (l:Bs) (out:List Pt) (h:(parse l).1=some out):may false out=true:=by
 cases l with
 | nil=>simp[parse] at h
 | cons c r=>
   by_cases hc:c=34
   ·subst hc
    rw[z2b] at h;exact x3n r 1 [] [] rfl rfl out h
   ·rw[z38 c r hc] at h;cases h
end Go.Proofs.YtngfihoempcplaaGreatDoor
