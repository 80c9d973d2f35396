import Derived.WalkKit
import Derived.Test.YtdobinjbejagcaaGreatDoorRows
import Derived.WalkSpells
import Derived.WalkLawsBesides
import Derived.Lib.Hide
import Derived.Outline
import Derived.Test.YtdobinjbejagcaaGreatDoorShelf
import Derived.Deep.QuietTactic
import Derived.BigQuiet
namespace Go.Proofs.YtdobinjbejagcaaGreatDoor
open Go Go.RowKit
abbrev Bs:=List UInt8
abbrev Pt:=List UInt8 × List UInt8
theorem all256 (P:UInt8→Prop) (h:∀ n,n<256→P (UInt8.ofNat n)) (c:UInt8):P c:=by
 have:=h c.toNat (UInt8.toNat_lt c);rwa [UInt8.ofNat_toNat] at this
def isDig (c:UInt8):Bool:=decide (48≤(c.toNat:Int)∧(c.toNat:Int)≤57)
def isLow (c:UInt8):Bool:=decide (97≤(c.toNat:Int)∧(c.toNat:Int)≤122)
def isIn (c:UInt8):Bool:=isLow c || isDig c || decide ((c.toNat:Int)=95)
def plainB (c:UInt8):Bool:=decide (32≤(c.toNat:Int)∧(c.toNat:Int)≤126∧¬ (c.toNat:Int)=34∧¬ (c.toNat:Int)=92∧¬ (c.toNat:Int)=36)
def hexD (c:UInt8):Int:=if 48≤(c.toNat:Int)∧(c.toNat:Int)≤57 then (c.toNat:Int) - 48 else if 97≤(c.toNat:Int)∧(c.toNat:Int)≤102 then (c.toNat:Int) - 87 else -1
def escD (c:UInt8):Option UInt8:=if c=110 then some 10 else if c=114 then some 13 else if c=116 then some 9 else if c=34 then some 34 else if c=92 then some 92 else if c=36 then some 36 else none
def tk:Nat→Bs→Nat
 | 0,_=>0
 | _+1,[]=>0
 | k+1,c::r=>if isIn c then tk k r+1 else 0
def nameLen:Bs→Nat
 | []=>0
 | c::r=>if isDig c then 1 else if isLow c then tk 7 r+1 else 0
def isName (l:Bs):Bool:= !l.isEmpty && decide (nameLen l=l.length)
inductive Step where
 | bad (k:Nat) | stop | var (nm:Bs) (k:Nat) | byte (c:UInt8) (k:Nat)
def stepVar:Bs→Step
 | []=> .bad 1
 | c::r=>if c=123 then (if nameLen r=0 then .bad 2 else match r.drop (nameLen r) with
  | []=> .bad (2+nameLen r)
  | d::_=>if d=125 then .var (r.take (nameLen r)) (nameLen r+3) else .bad (2+nameLen r)) else .bad 1
def stepHex:Bs→Step
 | []=> .bad 2
 | h::r=>if hexD h<0 then .bad 2 else match r with
   | []=> .bad 3
   | l::_=>if hexD l<0 then .bad 3 else .byte (UInt8.ofNat (hexD h * 16+hexD l).toNat) 4
def stepEsc:Bs→Step
 | []=> .bad 1
 | c::r=>if c=120 then stepHex r else match escD c with
   | some b=> .byte b 2
   | none=> .bad 1
def step:Bs→Step
 | []=> .bad 0
 | c::r=>if c=34 then .stop else if c=36 then stepVar r else if c=92 then stepEsc r else if plainB c then .byte c 1 else .bad 0
def flush (ps:List Pt) (t:Bs):List Pt:=if t=[] then ps else ps++[([],t)]
def go:Nat→Bs→Nat→List Pt→Bs→Option (List Pt) × Nat
 | 0,_,pos,_,_=>(none,pos)
 | f+1,r,pos,ps,t=>match step r with
   | .bad k=>(none,pos+k)
   | .stop=>(some (flush ps t),pos+1)
   | .var nm k=>go f (r.drop k) (pos+k) (flush ps t++[(nm,[])]) []
   | .byte c k=>go f (r.drop k) (pos+k) ps (t++[c])
def parse:Bs→Option (List Pt) × Nat
 | []=>(none,0)
 | c::r=>if c=34 then go (r.length+1) r 1 [] [] else (none,0)
def hexC (n:Nat):UInt8:=if n<10 then UInt8.ofNat (48+n) else UInt8.ofNat (87+n)
def prB (c:UInt8):Bs:=if plainB c then [c] else if c=10 then [92,110] else if c=13 then [92,114] else if c=9 then [92,116] else if c=34 then [92,34] else if c=92 then [92,92] else if c=36 then [92,36]
 else [92,120,hexC (c.toNat / 16),hexC (c.toNat % 16)]
def prV (nm:Bs):Bs:=if nm=[] then [] else 36::123::(nm++[125])
def prP (p:Pt):Bs:=prV p.1++p.2.flatMap prB
def print (ps:List Pt):Bs:=34::(ps.flatMap prP++[34])
def okP (b:Bool) (p:Pt):Bool:=if p.1=[] then !p.2.isEmpty && !b else p.2.isEmpty && isName p.1
def may:Bool→List Pt→Bool
 | _,[]=>true
 | b,p::r=>okP b p && may (decide (p.1=[])) r
theorem tk_cons (k:Nat) (c:UInt8) (r:Bs):tk (k+1) (c::r)=if isIn c then tk k r+1 else 0:=rfl
theorem nameLen_cons (c:UInt8) (r:Bs):nameLen (c::r)=if isDig c then 1 else if isLow c then tk 7 r+1 else 0:=rfl
theorem tk_le:∀ (k:Nat) (l:Bs),tk k l≤l.length∧tk k l≤k
 | 0,l=>by simp[tk]
 | k+1,[]=>by simp[tk]
 | k+1,c::r=>by
   have:=tk_le k r;rw[tk_cons];split
   ·simp;omega
   ·simp
theorem tk_more:∀ (k:Nat) (l m:Bs),(tk k l<l.length∨tk k l=k)→tk k (l++m)=tk k l
 | 0,l,m,_=>by simp[tk]
 | k+1,[],m,h=>by simp[tk] at h
 | k+1,c::r,m,h=>by
   rw[tk_cons] at h;rw[List.cons_append,tk_cons,tk_cons];by_cases hc:isIn c=true
   ·simp only[hc,if_true] at h ⊢
    have:=tk_more k r m (by simp at h;omega);omega
   ·simp[hc]
theorem tk_take:∀ (k:Nat) (l:Bs) (n:Nat),tk k l≤n→n≤l.length→tk k (l.take n)=tk k l
 | 0,l,n,_,_=>by simp[tk]
 | k+1,[],n,_,_=>by simp[tk]
 | k+1,c::r,0,h,_=>by
   rw[tk_cons] at h ⊢;by_cases hc:isIn c=true
   ·simp[hc] at h
   ·simp[hc,tk]
 | k+1,c::r,n+1,h,hn=>by
   rw[tk_cons] at h;rw[List.take_succ_cons,tk_cons,tk_cons];by_cases hc:isIn c=true
   ·simp only[hc,if_true] at h ⊢
    rw[tk_take k r n (by omega) (by simpa using hn)]
   ·simp[hc]
theorem nameLen_le (l:Bs):nameLen l≤l.length∧nameLen l≤8:=by
 cases l with
 | nil=>simp[nameLen]
 | cons c r=>
   have:=tk_le 7 r;rw[nameLen_cons];split
   ·simp
   ·split
    ·simp;omega
    ·simp
theorem nameLen_more (l m:Bs) (h:nameLen l<l.length):nameLen (l++m)=nameLen l:=by
 cases l with
 | nil=>simp at h
 | cons c r=>
   rw[nameLen_cons] at h;rw[List.cons_append,nameLen_cons,nameLen_cons];by_cases hd:isDig c=true
   ·simp[hd]
   ·by_cases hc:isLow c=true
    ·simp only[hd,hc,if_true] at h ⊢
     rw[tk_more 7 r m (by simp at h;omega)]
    ·simp[hd,hc]
theorem nameLen_take (l:Bs) (n:Nat) (h:nameLen l≤n) (h0:0<n) (hn:n≤l.length):nameLen (l.take n)=nameLen l:=by
 cases l with
 | nil=>simp
 | cons c r=>
   obtain⟨n,rfl⟩:∃ k,n=k+1:=⟨n - 1,by omega⟩;rw[nameLen_cons] at h;rw[List.take_succ_cons,nameLen_cons,nameLen_cons];by_cases hd:isDig c=true
   ·simp[hd]
   ·by_cases hc:isLow c=true
    ·simp only[hd,hc,if_true] at h ⊢
     rw[tk_take 7 r n (by simp at h;omega) (by simpa using hn)]
    ·simp[hd,hc]
theorem hexD_bd (c:UInt8): -1≤hexD c∧hexD c≤15:=by
 unfold hexD;split
 ·omega
 ·split <;> omega
theorem stepVar_var {r nm:Bs} {k:Nat} (h:stepVar r= .var nm k):∃ n,n=nameLen r.tail∧0<n∧nm=r.tail.take n∧k=n+3∧n+1<r.length∧r.head?=some 123∧(r.tail.drop n).head?=some 125:=by
 cases r with
 | nil=>simp[stepVar] at h
 | cons c r=>
   unfold stepVar at h;dsimp only at h
   split at h
   ·rename_i hc
    split at h
    ·cases h
    ·rename_i hn
     split at h
     ·cases h
     ·rename_i d t hd
      split at h
      ·rename_i hd2
       injection h with h1 h2
       have hl:=congrArg List.length hd;simp at hl;refine⟨nameLen r,rfl,by omega,h1.symm,h2.symm,by simp;omega,by simp[hc],by simp[hd,hd2]⟩
      ·cases h
   ·cases h
theorem stepVar_bad {r:Bs} {k:Nat} (h:stepVar r= .bad k):1≤k∧k≤r.length+1:=by
 cases r with
 | nil=>simp[stepVar] at h;subst h;simp
 | cons c r=>
   have:=nameLen_le r;unfold stepVar at h;dsimp only at h
   split at h
   ·split at h
    ·injection h with h;subst h;simp
    ·split at h
     ·injection h with h;subst h;simp;omega
     ·split at h
      ·cases h
      ·injection h with h;subst h;simp;omega
   ·injection h with h;subst h;simp
theorem isIn125:isIn 125=false:=by decide
theorem tk_stop:∀ (k:Nat) (r:Bs) (d:UInt8) (t:Bs),tk k r=r.length→isIn d=false→tk k (r++d::t)=r.length
 | 0,r,d,t,h,_=>by simp[tk] at h;rw[List.length_eq_zero_iff.1 h.symm];simp[tk]
 | k+1,[],d,t,_,hd=>by simp[tk_cons,hd]
 | k+1,c::r,d,t,h,hd=>by
   rw[tk_cons] at h;rw[List.cons_append,tk_cons];by_cases hc:isIn c=true
   ·simp only[hc,if_true] at h ⊢
    rw[tk_stop k r d t (by simpa using h) hd];simp
   ·simp[hc] at h
theorem nameLen_stop (r:Bs) (d:UInt8) (t:Bs) (h:nameLen r=r.length) (h0:r≠[]) (hd:isIn d=false):nameLen (r++d::t)=r.length:=by
 cases r with
 | nil=>exact absurd rfl h0
 | cons c r=>
   rw[nameLen_cons] at h;rw[List.cons_append,nameLen_cons];by_cases h1:isDig c=true
   ·simp only[h1,if_true] at h ⊢;exact h
   ·by_cases h2:isLow c=true
    ·simp only[h1,h2,if_true] at h ⊢
     rw[if_neg (by simp)] at h ⊢;rw[tk_stop 7 r d t (by simpa using h) hd];simp
    ·simp[h1,h2] at h
theorem nameLen_swap (r:Bs) (d:UInt8) (t t':Bs) (h:nameLen (r++d::t)=r.length) (h0:r≠[]):nameLen (r++d::t')=r.length:=by
 have hl:0<r.length:=List.length_pos_iff.2 h0;have h1:=nameLen_take (r++d::t) (r.length+1) (by omega) (by omega) (by simp)
 have e:(r++d::t).take (r.length+1)=r++[d]:=by
  rw[List.take_append,List.take_of_length_le (by omega)];simp
 rw[e,h] at h1;have h2:=nameLen_more (r++[d]) t' (by simp;omega);rw[h1] at h2;rw[←h2];simp
theorem nameLen_self (r:Bs) (d:UInt8) (t:Bs) (h:nameLen (r++d::t)=r.length) (h0:r≠[]):nameLen r=r.length:=by
 have hl:0<r.length:=List.length_pos_iff.2 h0;have h1:=nameLen_take (r++d::t) r.length (by omega) hl (by simp);rw[h] at h1;simpa using h1
theorem var_form {r nm:Bs} {k:Nat} (h:stepVar r= .var nm k):∃ t,r=123::(nm++125::t)∧nameLen (nm++125::t)=nm.length∧nm≠[]∧k=nm.length+3:=by
 obtain⟨n,hn,h0,hnm,hk,hl,hh,hd⟩:=stepVar_var h
 cases r with
 | nil=>simp at hh
 | cons c r=>
   simp only[List.tail_cons,List.head?_cons,Option.some.injEq,List.length_cons] at hn hnm hh hd hl;have hnl:nm.length=n:=by rw[hnm,List.length_take];omega
   have ht:r.drop n=125::(r.drop n).tail:=by
    cases hx:r.drop n with
    | nil=>rw[hx] at hd;simp at hd
    | cons a b=>rw[hx] at hd;simp at hd;simp[hd]
   have hr:r=nm++125::(r.drop n).tail:=by rw[←ht,hnm];exact(List.take_append_drop n r).symm
   refine⟨(r.drop n).tail,?_,?_,?_,?_⟩
   ·rw[hh];exact congrArg _ hr
   ·rw[←hr,←hn,hnl]
   ·intro e;rw[e] at hnl;simp at hnl;omega
   ·omega
theorem var_mk (nm t:Bs) (h:nameLen (nm++125::t)=nm.length) (h0:nm≠[]):stepVar (123::(nm++125::t))= .var nm (nm.length+3):=by
 have hl:0<nm.length:=List.length_pos_iff.2 h0;unfold stepVar;simp only[if_true,h];rw[if_neg (by omega)];simp
theorem esc_form {r:Bs} {b:UInt8} {k:Nat} (h:stepEsc r= .byte b k):(∃ c t,r=c::t∧c≠120∧escD c=some b∧k=2)∨∃ c d t,r=120::c::d::t∧0≤hexD c∧0≤hexD d∧b=UInt8.ofNat (hexD c * 16+hexD d).toNat∧k=4:=by
 cases r with
 | nil=>simp[stepEsc] at h
 | cons c r=>
   unfold stepEsc at h;dsimp only at h
   split at h
   ·rename_i hc
    subst hc
    cases r with
    | nil=>simp[stepHex] at h
    | cons x r=>
      unfold stepHex at h;dsimp only at h
      split at h
      ·cases h
      ·cases r with
       | nil=>simp at h
       | cons y r=>
         dsimp only at h
         split at h
         ·cases h
         ·injection h with h1 h2
          exact .inr ⟨x,y,r,rfl,by omega,by omega,h1.symm,h2.symm⟩
   ·rename_i hc
    split at h
    ·rename_i b' hb
     injection h with h1 h2
     exact .inl ⟨c,r,rfl,hc,by rw[hb,h1],h2.symm⟩
    ·cases h
theorem esc_mk (c b:UInt8) (t:Bs) (h:c≠120) (hb:escD c=some b):stepEsc (c::t)= .byte b 2:=by
 unfold stepEsc;simp only;rw[if_neg h,hb]
theorem hex_mk (c d:UInt8) (t:Bs) (h:0≤hexD c) (hb:0≤hexD d):stepEsc (120::c::d::t)= .byte (UInt8.ofNat (hexD c * 16+hexD d).toNat) 4:=by
 have e:stepEsc (120::c::d::t)=if hexD c<0 then .bad 2 else if hexD d<0 then .bad 3 else .byte (UInt8.ofNat (hexD c * 16+hexD d).toNat) 4:=rfl
 rw[e,if_neg (by omega),if_neg (by omega)]
theorem byte_form {r:Bs} {b:UInt8} {k:Nat} (h:step r= .byte b k):(∃ t,r=b::t∧plainB b=true∧k=1)∨(∃ c t,r=92::c::t∧c≠120∧escD c=some b∧k=2)∨
  ∃ c d t,r=92::120::c::d::t∧0≤hexD c∧0≤hexD d∧b=UInt8.ofNat (hexD c * 16+hexD d).toNat∧k=4:=by
 cases r with
 | nil=>simp[step] at h
 | cons c r=>
   unfold step at h;dsimp only at h
   split at h
   ·cases h
   ·split at h
    ·exfalso
     unfold stepVar at h
     split at h
     ·cases h
     ·split at h
      ·split at h
       ·cases h
       ·split at h
        ·cases h
        ·split at h <;> cases h
      ·cases h
    ·split at h
     ·rename_i hc
      subst hc
      rcases esc_form h with ⟨c,t,rfl,h1⟩ | ⟨c,d,t,rfl,h1⟩
      ·exact .inr (.inl ⟨c,t,rfl,h1⟩)
      ·exact .inr (.inr ⟨c,d,t,rfl,h1⟩)
     ·split at h
      ·rename_i hp
       injection h with h1 h2
       subst h1;exact .inl ⟨r,rfl,hp,h2.symm⟩
      ·cases h
theorem plain_ne {b:UInt8} (h:plainB b=true):b≠34∧b≠36∧b≠92:=by
 refine⟨?_,?_,?_⟩ <;> (rintro rfl;revert h;decide)
theorem step_plain (b:UInt8) (t:Bs) (h:plainB b=true):step (b::t)= .byte b 1:=by
 obtain⟨h1,h2,h3⟩:=plain_ne h;unfold step;simp[h1,h2,h3,h]
theorem step_esc (t:Bs):step (92::t)=stepEsc t:=by unfold step;simp
theorem step_dollar (t:Bs):step (36::t)=stepVar t:=by unfold step;simp
theorem step_quote (t:Bs):step (34::t)= .stop:=by unfold step;simp
theorem stop_form {r:Bs} (h:step r= .stop):∃ t,r=34::t:=by
 cases r with
 | nil=>simp[step] at h
 | cons c r=>
   by_cases hc:c=34
   ·exact⟨r,by rw[hc]⟩
   ·exfalso
    unfold step at h;dsimp only at h;rw[if_neg hc] at h
    split at h
    ·unfold stepVar at h
     split at h
     ·cases h
     ·split at h
      ·split at h
       ·cases h
       ·split at h
        ·cases h
        ·split at h <;> cases h
      ·cases h
    ·split at h
     ·unfold stepEsc at h
      split at h
      ·cases h
      ·split at h
       ·unfold stepHex at h
        split at h
        ·cases h
        ·split at h
         ·cases h
         ·split at h
          ·cases h
          ·split at h <;> cases h
       ·split at h <;> cases h
     ·split at h <;> cases h
theorem svar_form {r nm:Bs} {k:Nat} (h:step r= .var nm k):∃ t,r=36::123::(nm++125::t)∧nameLen (nm++125::t)=nm.length∧nm≠[]∧k=nm.length+3:=by
 cases r with
 | nil=>simp[step] at h
 | cons c r=>
   unfold step at h;dsimp only at h
   split at h
   ·cases h
   ·split at h
    ·rename_i hc
     obtain⟨t,hr,h1⟩:=var_form h;exact⟨t,by rw[hc,hr],h1⟩
    ·exfalso
     split at h
     ·unfold stepEsc at h
      split at h
      ·cases h
      ·split at h
       ·unfold stepHex at h
        split at h
        ·cases h
        ·split at h
         ·cases h
         ·split at h
          ·cases h
          ·split at h <;> cases h
       ·split at h <;> cases h
     ·split at h <;> cases h
theorem step_var (nm t:Bs) (h:nameLen (nm++125::t)=nm.length) (h0:nm≠[]):step (36::123::(nm++125::t))= .var nm (nm.length+3):=by
 rw[step_dollar,var_mk nm t h h0]
theorem byte_local {r:Bs} {b:UInt8} {k:Nat} (h:step r= .byte b k):0<k∧k≤r.length∧∀ X,step (r.take k++X)= .byte b k:=by
 rcases byte_form h with ⟨t,rfl,hp,rfl⟩ | ⟨c,t,rfl,hc,hb,rfl⟩ | ⟨c,d,t,rfl,hc,hd,rfl,rfl⟩
 ·exact⟨by omega,by simp,fun X=>step_plain b X hp⟩
 ·exact⟨by omega,by simp,fun X=>by simp only[List.take_succ_cons,List.take_zero,List.cons_append,List.nil_append];rw[step_esc,esc_mk c b X hc hb]⟩
 ·exact⟨by omega,by simp,fun X=>by simp only[List.take_succ_cons,List.take_zero,List.cons_append,List.nil_append];rw[step_esc,hex_mk c d X hc hd]⟩
theorem var_local {r nm:Bs} {k:Nat} (h:step r= .var nm k):0<k∧k≤r.length∧∀ X,step (r.take k++X)= .var nm k:=by
 obtain⟨t,rfl,hn,h0,rfl⟩:=svar_form h;refine⟨by omega,by simp,fun X=>?_⟩
 have e:(36::123::(nm++125::t)).take (nm.length+3)++X=36::123::(nm++125::X):=by
  simp[List.take_append,List.take_of_length_le]
 rw[e];exact step_var nm X (nameLen_swap nm 125 t X hn h0) h0
theorem bad_le {r:Bs} {k:Nat} (h:step r= .bad k):k≤r.length:=by
 cases r with
 | nil=>simp[step] at h;omega
 | cons c r=>
   unfold step at h;dsimp only at h
   split at h
   ·cases h
   ·split at h
    ·have:=stepVar_bad h;simp;omega
    ·split at h
     ·unfold stepEsc at h
      split at h
      ·injection h with h;subst h;simp
      ·split at h
       ·unfold stepHex at h
        split at h
        ·injection h with h;subst h;simp
        ·split at h
         ·injection h with h;subst h;simp
         ·split at h
          ·injection h with h;subst h;simp
          ·split at h
           ·injection h with h;subst h;simp
           ·cases h
       ·split at h
        ·cases h
        ·injection h with h;subst h;simp
     ·split at h
      ·cases h
      ·injection h with h;subst h;simp
theorem go_fuel:∀ (f g:Nat) (r:Bs) (pos:Nat) (ps:List Pt) (t:Bs),r.length<f→r.length<g→go f r pos ps t=go g r pos ps t
 | 0,_,_,_,_,_,h,_=>by omega
 | _,0,_,_,_,_,_,h=>by omega
 | f+1,g+1,r,pos,ps,t,hf,hg=>by
   unfold go
   split
   ·rfl
   ·rfl
   ·rename_i nm k h
    obtain⟨h0,h1,_⟩:=var_local h;exact go_fuel f g _ _ _ _ (by rw[List.length_drop];omega) (by rw[List.length_drop];omega)
   ·rename_i c k h
    obtain⟨h0,h1,_⟩:=byte_local h;exact go_fuel f g _ _ _ _ (by rw[List.length_drop];omega) (by rw[List.length_drop];omega)
def goN (r:Bs) (pos:Nat) (ps:List Pt) (t:Bs):Option (List Pt) × Nat:=go (r.length+1) r pos ps t
theorem goN_bad {r:Bs} {k:Nat} (h:step r= .bad k) (pos:Nat) (ps:List Pt) (t:Bs):goN r pos ps t=(none,pos+k):=by
 unfold goN go;rw[h]
theorem goN_stop {r:Bs} (h:step r= .stop) (pos:Nat) (ps:List Pt) (t:Bs):goN r pos ps t=(some (flush ps t),pos+1):=by
 unfold goN go;rw[h]
theorem goN_var {r nm:Bs} {k:Nat} (h:step r= .var nm k) (pos:Nat) (ps:List Pt) (t:Bs):goN r pos ps t=goN (r.drop k) (pos+k) (flush ps t++[(nm,[])]) []:=by
 obtain⟨h0,h1,_⟩:=var_local h;unfold goN;rw[show go (r.length+1) r pos ps t=go r.length (r.drop k) (pos+k) (flush ps t++[(nm,[])]) [] by rw[go,h]];exact go_fuel _ _ _ _ _ _ (by rw[List.length_drop];omega) (by omega)
theorem goN_byte {r:Bs} {c:UInt8} {k:Nat} (h:step r= .byte c k) (pos:Nat) (ps:List Pt) (t:Bs):goN r pos ps t=goN (r.drop k) (pos+k) ps (t++[c]):=by
 obtain⟨h0,h1,_⟩:=byte_local h;unfold goN;rw[show go (r.length+1) r pos ps t=go r.length (r.drop k) (pos+k) ps (t++[c]) by rw[go,h]];exact go_fuel _ _ _ _ _ _ (by rw[List.length_drop];omega) (by omega)
theorem parse_quote (r:Bs):parse (34::r)=goN r 1 [] []:=by unfold parse goN;simp
theorem parse_no (c:UInt8) (r:Bs) (h:c≠34):parse (c::r)=(none,0):=by unfold parse;simp[h]
theorem step_cases (r:Bs):(∃ k,step r= .bad k)∨step r= .stop∨(∃ nm k,step r= .var nm k)∨∃ c k,step r= .byte c k:=by
 cases h:step r with
 | bad k=>exact .inl ⟨k,rfl⟩
 | stop=>exact .inr (.inl rfl)
 | var nm k=>exact .inr (.inr (.inl ⟨nm,k,rfl⟩))
 | byte c k=>exact .inr (.inr (.inr ⟨c,k,rfl⟩))
theorem goN_ind {P:Bs→Nat→List Pt→Bs→Prop} (hb:∀ r k pos ps t,step r= .bad k→P r pos ps t) (hs:∀ r pos ps t,step r= .stop→P r pos ps t)
  (hv:∀ r nm k pos ps t,step r= .var nm k→0<k→k≤r.length→P (r.drop k) (pos+k) (flush ps t++[(nm,[])]) []→P r pos ps t)
  (hc:∀ r c k pos ps t,step r= .byte c k→0<k→k≤r.length→P (r.drop k) (pos+k) ps (t++[c])→P r pos ps t):
  ∀ (n:Nat) (r:Bs) (pos:Nat) (ps:List Pt) (t:Bs),r.length<n→P r pos ps t
 | 0,r,_,_,_,h=>by omega
 | n+1,r,pos,ps,t,hl=>by
   rcases step_cases r with ⟨k,h⟩ | h | ⟨nm,k,h⟩ | ⟨c,k,h⟩
   ·exact hb r k pos ps t h
   ·exact hs r pos ps t h
   ·obtain⟨h0,h1,_⟩:=var_local h
    exact hv r nm k pos ps t h h0 h1 (goN_ind hb hs hv hc n _ _ _ _ (by rw[List.length_drop];omega))
   ·obtain⟨h0,h1,_⟩:=byte_local h
    exact hc r c k pos ps t h h0 h1 (goN_ind hb hs hv hc n _ _ _ _ (by rw[List.length_drop];omega))
theorem goN_bd (r:Bs) (pos:Nat) (ps:List Pt) (t:Bs):pos≤(goN r pos ps t).2∧(goN r pos ps t).2≤pos+r.length∧
  ((goN r pos ps t).1.isSome→pos<(goN r pos ps t).2∧r[(goN r pos ps t).2 - 1 - pos]?=some 34):=by
 refine goN_ind (P:=fun r pos ps t=>pos≤(goN r pos ps t).2∧(goN r pos ps t).2≤pos+r.length∧((goN r pos ps t).1.isSome→pos<(goN r pos ps t).2∧r[(goN r pos ps t).2 - 1 - pos]?=some 34)) ?_ ?_ ?_ ?_ (r.length+1) r pos ps t (Nat.lt_succ_self _)
 ·intro r k pos ps t h
  rw[goN_bad h];have:=bad_le h;exact⟨by simp,by simpa using this,fun h=>by simp at h⟩
 ·intro r pos ps t h
  rw[goN_stop h];obtain⟨t',rfl⟩:=stop_form h;exact⟨by simp,by simp,fun _=>⟨by simp,by simp⟩⟩
 ·intro r nm k pos ps t h h0 h1 ih
  rw[goN_var h];obtain⟨a,b,c⟩:=ih;rw[List.length_drop] at b;refine⟨by omega,by omega,fun hs=>?_⟩;obtain⟨c1,c2⟩:=c hs;rw[List.getElem?_drop] at c2;refine⟨by omega,?_⟩;rw[←c2];congr 1;omega
 ·intro r c k pos ps t h h0 h1 ih
  rw[goN_byte h];obtain⟨a,b,c⟩:=ih;rw[List.length_drop] at b;refine⟨by omega,by omega,fun hs=>?_⟩;obtain⟨c1,c2⟩:=c hs;rw[List.getElem?_drop] at c2;refine⟨by omega,?_⟩;rw[←c2];congr 1;omega
theorem parse_bd (l:Bs):(parse l).2≤l.length∧((parse l).1.isSome→0<(parse l).2∧l[(parse l).2 - 1]?=some 34):=by
 cases l with
 | nil=>exact⟨by simp[parse],fun h=>by simp[parse] at h⟩
 | cons c r=>
   by_cases hc:c=34
   ·subst hc
    rw[parse_quote];obtain⟨a,b,d⟩:=goN_bd r 1 [] [];refine⟨by simp;omega,fun h=>?_⟩;obtain⟨d1,d2⟩:=d h;refine⟨by omega,?_⟩;generalize (goN r 1 [] []).2=n at a b d1 d2 ⊢;obtain⟨k,rfl⟩:∃ k,n=k+2:=⟨n - 2,by omega⟩;simpa using d2
   ·rw[parse_no c r hc];exact⟨by simp,fun h=>by simp at h⟩
def lastT:Bool→List Pt→Bool
 | b,[]=>b
 | _,p::r=>lastT (decide (p.1=[])) r
theorem may_append:∀ (b:Bool) (ps:List Pt) (p:Pt),may b (ps++[p])=(may b ps && okP (lastT b ps) p)
 | b,[],p=>by simp[may,lastT]
 | b,q::r,p=>by rw[List.cons_append,may,may,may_append _ r p,lastT,Bool.and_assoc]
theorem lastT_append:∀ (b:Bool) (ps:List Pt) (p:Pt),lastT b (ps++[p])=decide (p.1=[])
 | b,[],p=>by simp[lastT]
 | b,q::r,p=>by rw[List.cons_append,lastT,lastT_append _ r p]
theorem flush_may {ps:List Pt} {t:Bs} (h:may false ps=true) (hl:lastT false ps=false):may false (flush ps t)=true:=by
 unfold flush;split
 ·exact h
 ·rename_i ht;rw[may_append,h,hl];simp[okP,ht]
theorem isName_of {nm t:Bs} (h:nameLen (nm++125::t)=nm.length) (h0:nm≠[]):isName nm=true:=by
 unfold isName;rw[nameLen_self nm 125 t h h0];simp[h0]
theorem goN_may (r:Bs) (pos:Nat) (ps:List Pt) (t:Bs):may false ps=true→lastT false ps=false→∀ out,(goN r pos ps t).1=some out→may false out=true:=by
 refine goN_ind (P:=fun r pos ps t=>may false ps=true→lastT false ps=false→∀ out,(goN r pos ps t).1=some out→may false out=true) ?_ ?_ ?_ ?_ (r.length+1) r pos ps t (Nat.lt_succ_self _)
 ·intro r k pos ps t h _ _ out ho
  rw[goN_bad h] at ho;cases ho
 ·intro r pos ps t h hm hl out ho
  rw[goN_stop h] at ho;injection ho with ho;subst ho
  exact flush_may hm hl
 ·intro r nm k pos ps t h h0 h1 ih hm hl out ho
  rw[goN_var h] at ho;obtain⟨x,rfl,hn,hne,_⟩:=svar_form h;refine ih ?_ ?_ out ho
  ·rw[may_append,flush_may hm hl];simp[okP,hne,isName_of hn hne]
  ·rw[lastT_append];simp[hne]
 ·intro r c k pos ps t h h0 h1 ih hm hl out ho
  rw[goN_byte h] at ho;exact ih hm hl out ho
theorem parse_may (l:Bs) (out:List Pt) (h:(parse l).1=some out):may false out=true:=by
 cases l with
 | nil=>simp[parse] at h
 | cons c r=>
   by_cases hc:c=34
   ·subst hc
    rw[parse_quote] at h;exact goN_may r 1 [] [] rfl rfl out h
   ·rw[parse_no c r hc] at h;cases h
theorem prB_byte (c:UInt8) (t:Bs):∃ k,k=(prB c).length∧step (prB c++t)= .byte c k:=by
 by_cases hp:plainB c=true
 ·have e:prB c=[c]:=by unfold prB;simp[hp]
  rw[e];exact⟨1,rfl,step_plain c t hp⟩
 ·have hx:=fun (x y:UInt8) (hxy:escD y=some x) (hy:y≠120)=>(show step ([92,y]++t)= .byte x 2 by
   show step (92::y::t)=_;rw[step_esc,esc_mk y x t hy hxy])
  by_cases h1:c=10
  ·subst h1;exact⟨2,rfl,hx 10 110 (by decide) (by decide)⟩
  by_cases h2:c=13
  ·subst h2;exact⟨2,rfl,hx 13 114 (by decide) (by decide)⟩
  by_cases h3:c=9
  ·subst h3;exact⟨2,rfl,hx 9 116 (by decide) (by decide)⟩
  by_cases h4:c=34
  ·subst h4;exact⟨2,rfl,hx 34 34 (by decide) (by decide)⟩
  by_cases h5:c=92
  ·subst h5;exact⟨2,rfl,hx 92 92 (by decide) (by decide)⟩
  by_cases h6:c=36
  ·subst h6;exact⟨2,rfl,hx 36 36 (by decide) (by decide)⟩
  have e:prB c=[92,120,hexC (c.toNat / 16),hexC (c.toNat % 16)]:=by unfold prB;simp[hp,h1,h2,h3,h4,h5,h6]
  have hh:∀ c:UInt8,0≤hexD (hexC (c.toNat / 16))∧0≤hexD (hexC (c.toNat % 16))∧UInt8.ofNat (hexD (hexC (c.toNat / 16)) * 16+hexD (hexC (c.toNat % 16))).toNat=c:=
   all256 _ (by decide+kernel)
  obtain⟨a,b,d⟩:=hh c;rw[e];refine⟨4,rfl,?_⟩;show step (92::120::hexC (c.toNat / 16)::hexC (c.toNat % 16)::t)=_;rw[step_esc,hex_mk _ _ t a b,d]
theorem goN_bytes:∀ (x rest:Bs) (pos:Nat) (ps:List Pt) (t:Bs),goN (x.flatMap prB++rest) pos ps t=goN rest (pos+(x.flatMap prB).length) ps (t++x)
 | [],rest,pos,ps,t=>by simp
 | c::x,rest,pos,ps,t=>by
   obtain⟨k,hk,h⟩:=prB_byte c (x.flatMap prB++rest);rw[List.flatMap_cons,List.append_assoc,goN_byte h,hk,List.drop_left,goN_bytes x rest _ ps _];simp[Nat.add_assoc]
theorem goN_parts:∀ (qs:List Pt) (more:Bs) (pos:Nat) (ps:List Pt) (t:Bs),may (!t.isEmpty) qs=true→
  goN (qs.flatMap prP++34::more) pos ps t=(some (flush ps t++qs),pos+(qs.flatMap prP).length+1)
 | [],more,pos,ps,t,_=>by simp[goN_stop (step_quote more)]
 | q::qs,more,pos,ps,t,h=>by
   rw[may,Bool.and_eq_true] at h;obtain⟨h1,h2⟩:=h;rw[List.flatMap_cons,List.append_assoc];unfold okP at h1
   split at h1
   ·rename_i hq
    simp at h1;obtain⟨a,b⟩:=h1;have ht:t=[]:=by simpa using b
    subst ht;have e:prP q=q.2.flatMap prB:=by unfold prP prV;simp[hq]
    have hq2:(!([]++q.2:Bs).isEmpty)=decide (q.1=[]):=by simp[a,hq]
    rw[e,goN_bytes,goN_parts qs more _ ps _ (by rw[hq2];exact h2)];simp only[List.nil_append,Prod.mk.injEq];refine⟨?_,by rw[List.length_append];omega⟩;have e2:q=([],q.2):=by rw[←hq]
    unfold flush;rw[if_neg a,if_pos rfl];rw[List.append_assoc];congr 1;congr 1;simp[←hq]
   ·rename_i hq
    simp at h1;obtain⟨a,b⟩:=h1;have e:prP q=36::123::(q.1++[125]):=by unfold prP prV;simp[hq,a]
    have hn:nameLen q.1=q.1.length:=by unfold isName at b;simp at b;exact b.2
    have hs:=step_var q.1 (qs.flatMap prP++34::more) (nameLen_stop q.1 125 _ hn hq isIn125) hq;have e3:prP q++(qs.flatMap prP++34::more)=36::123::(q.1++125::(qs.flatMap prP++34::more)):=by rw[e];simp
    have e4:(36::123::(q.1++125::(qs.flatMap prP++34::more))).drop (q.1.length+3)=qs.flatMap prP++34::more:=by
     rw[←e3];apply List.drop_left';rw[e];simp
    rw[e3,goN_var hs,e4,goN_parts qs more _ _ [] (by simpa[hq] using h2)];simp only[Prod.mk.injEq];refine⟨?_,by rw[List.length_append,e];simp;omega⟩;have e2:q=(q.1,[]):=by rw[←a]
    rw[e2];simp[flush]
theorem parse_print (ps:List Pt) (more:Bs) (h:may false ps=true):parse (print ps++more)=(some ps,(print ps).length):=by
 have e:print ps++more=34::(ps.flatMap prP++34::more):=by unfold print;simp
 rw[e,parse_quote,goN_parts ps more 1 [] [] (by simpa using h)];simp[flush,print];omega
theorem ret_int {k:IntKind} {a b:Int} (h:a=b):Ending.returned (.int k a)= .returned (.int k b):=by rw[h]
theorem ret_bool {a b:Bool} (h:a=b):Ending.returned (.bool a)= .returned (.bool b):=by rw[h]
theorem isdig_any (c:UInt8) (w:World):Calls Tryz.prog 110 #[.int .u8 c.toNat] w fun e w'=>e= .returned (.bool (isDig c))∧w=w':=by
 obtain⟨n,hn⟩:∃ n:Int,n=c.toNat:=⟨_,rfl⟩;have e:isDig c=decide (48≤n∧n≤57):=by rw[hn];rfl
 rw[e,←hn];clear e hn;by_cases h1:48≤n <;> by_cases h2:n≤57
 all_goals
  go_enter Tryz.func110,Tryz.ntmps110;go_wp2;go_ret;exact⟨ret_bool (by simp[h1,h2]),rfl⟩
theorem islow_any (c:UInt8) (w:World):Calls Tryz.prog 111 #[.int .u8 c.toNat] w fun e w'=>e= .returned (.bool (isLow c))∧w=w':=by
 obtain⟨n,hn⟩:∃ n:Int,n=c.toNat:=⟨_,rfl⟩;have e:isLow c=decide (97≤n∧n≤122):=by rw[hn];rfl
 rw[e,←hn];clear e hn;by_cases h1:97≤n <;> by_cases h2:n≤122
 all_goals
  go_enter Tryz.func111,Tryz.ntmps111;go_wp2;go_ret;exact⟨ret_bool (by simp[h1,h2]),rfl⟩
theorem isin_any (c:UInt8) (w:World):Calls Tryz.prog 112 #[.int .u8 c.toNat] w fun e w'=>e= .returned (.bool (isIn c))∧w=w':=by
 have KD:=fun w=>isdig_any c w
 have KL:=fun w=>islow_any c w
 have e:isIn c=(isLow c || isDig c || decide ((c.toNat:Int)=95)):=rfl;rw[e];clear e;generalize isDig c=d at KD ⊢;generalize isLow c=l at KL ⊢;have HD:=Lib.hid KD;have HL:=Lib.hid KL;clear KD KL;obtain⟨n,hn⟩:∃ n:Int,n=c.toNat:=⟨_,rfl⟩;rw[←hn] at HD HL ⊢;clear hn;by_cases h:n=95
 ·subst h
  cases d <;> cases l
  all_goals
   go_enter Tryz.func112,Tryz.ntmps112;go_wp2_with (first | (go_at_call 111;((with_reducible refine(HL.out _).mono ?_));rintro e w' ⟨rfl,rfl⟩) | (go_at_call 110;((with_reducible refine(HD.out _).mono ?_));rintro e w' ⟨rfl,rfl⟩));go_ret;exact⟨rfl,rfl⟩
 ·have hb:(n==95)=false:=by simpa using h
  have hd:decide (n=95)=false:=by simpa using h
  cases d <;> cases l
  all_goals
   go_enter Tryz.func112,Tryz.ntmps112;go_wp2_with (first | (go_at_call 111;((with_reducible refine(HL.out _).mono ?_));rintro e w' ⟨rfl,rfl⟩) | (go_at_call 110;((with_reducible refine(HD.out _).mono ?_));rintro e w' ⟨rfl,rfl⟩));go_ret;exact⟨ret_bool (by simp[hd]),rfl⟩
theorem plain_any (c:UInt8) (w:World):Calls Tryz.prog 131 #[.int .u8 c.toNat] w fun e w'=>e= .returned (.bool (plainB c))∧w=w':=by
 obtain⟨n,hn⟩:∃ n:Int,n=c.toNat:=⟨_,rfl⟩;have e:plainB c=decide (32≤n∧n≤126∧¬ n=34∧¬ n=92∧¬ n=36):=by rw[hn];rfl
 rw[e,←hn];clear e hn;obtain⟨v,hv⟩:∃ v,v=decide (32≤n∧n≤126∧¬ n=34∧¬ n=92∧¬ n=36):=⟨_,rfl⟩;rw[←hv];have HV:=Lib.hid hv;clear hv;by_cases h1:32≤n
 ·by_cases h2:n≤126
  ·by_cases h3:n=34
   ·subst h3
    go_enter Tryz.func131,Tryz.ntmps131;go_wp2;go_ret;exact⟨ret_bool (by rw[HV.out];rfl),rfl⟩
   ·by_cases h4:n=92
    ·subst h4
     go_enter Tryz.func131,Tryz.ntmps131;go_wp2;go_ret;exact⟨ret_bool (by rw[HV.out];rfl),rfl⟩
    ·by_cases h5:n=36
     ·subst h5
      go_enter Tryz.func131,Tryz.ntmps131;go_wp2;go_ret;exact⟨ret_bool (by rw[HV.out];rfl),rfl⟩
     ·have a3:(n != 34)=true:=by simpa using h3
      have a4:(n != 92)=true:=by simpa using h4
      have a5:(n != 36)=true:=by simpa using h5
      go_enter Tryz.func131,Tryz.ntmps131;go_wp2;go_ret;exact⟨ret_bool (by rw[HV.out];simp;omega),rfl⟩
  ·go_enter Tryz.func131,Tryz.ntmps131
   go_wp2;go_ret;exact⟨ret_bool (by rw[HV.out];simp;omega),rfl⟩
 ·go_enter Tryz.func131,Tryz.ntmps131
  go_wp2;go_ret;exact⟨ret_bool (by rw[HV.out];simp;omega),rfl⟩
theorem small_no (c:UInt8) (w:World):Calls Tryz.prog 54 #[.int .u8 c.toNat,.bool false] w fun e w'=>e= .returned (.bool (isLow c))∧w=w':=by
 obtain⟨n,hn⟩:∃ n:Int,n=c.toNat:=⟨_,rfl⟩;have e:isLow c=decide (97≤n∧n≤122):=by rw[hn];rfl
 rw[e,←hn];clear e hn;by_cases h1:97≤n <;> by_cases h2:n≤122
 all_goals
  go_enter Tryz.func54,Tryz.ntmps54;go_wp2;go_ret;exact⟨ret_bool (by simp[h1,h2]),rfl⟩
theorem small_yes (c:UInt8) (w:World):Calls Tryz.prog 54 #[.int .u8 c.toNat,.bool true] w fun e w'=>e= .returned (.bool (isIn c))∧w=w':=by
 obtain⟨n,hn⟩:∃ n:Int,n=c.toNat:=⟨_,rfl⟩;have e:isIn c=(decide (97≤n∧n≤122) || decide (48≤n∧n≤57) || decide (n=95)):=by rw[hn];rfl
 rw[e,←hn];clear e hn;obtain⟨v,hv⟩:∃ v,v=(decide (97≤n∧n≤122) || decide (48≤n∧n≤57) || decide (n=95)):=⟨_,rfl⟩;rw[←hv];have HV:=Lib.hid hv;clear hv;by_cases h0:n=95
 ·subst h0
  go_enter Tryz.func54,Tryz.ntmps54;go_wp2;go_ret;exact⟨ret_bool (by rw[HV.out];rfl),rfl⟩
 ·have hb:(n==95)=false:=by simpa using h0
  by_cases h1:97≤n
  ·have h3:48≤n:=by omega
   have h4:¬ n≤57:=by omega
   by_cases h2:n≤122
   all_goals
    go_enter Tryz.func54,Tryz.ntmps54;go_wp2;go_ret;exact⟨ret_bool (by rw[HV.out];simp;omega),rfl⟩
  ·by_cases h3:48≤n <;> by_cases h4:n≤57
   all_goals
    go_enter Tryz.func54,Tryz.ntmps54;go_wp2;go_ret;exact⟨ret_bool (by rw[HV.out];simp;omega),rfl⟩
theorem digit_any (c:UInt8) (w:World):Calls Tryz.prog 142 #[.int .u8 c.toNat] w fun e w'=>e= .returned (.int .i64 (hexD c))∧w=w':=by
 have hlt:(c.toNat:Int)≤255:=by have:=UInt8.toNat_lt c;omega
 have hge:0≤(c.toNat:Int):=by omega
 obtain⟨n,hn⟩:∃ n:Int,n=c.toNat:=⟨_,rfl⟩;have e:hexD c=if 48≤n∧n≤57 then n - 48 else if 97≤n∧n≤102 then n - 87 else -1:=by rw[hn];rfl
 rw[e,←hn];rw[←hn] at hlt hge;clear e hn;obtain⟨v,hv⟩:∃ v:Int,v=if 48≤n∧n≤57 then n - 48 else if 97≤n∧n≤102 then n - 87 else -1:=⟨_,rfl⟩
 rw[←hv];have HV:=Lib.hid hv;clear hv;by_cases h1:48≤n
 ·by_cases h2:n≤57
  ·go_enter Tryz.func142,Tryz.ntmps142
   go_wp2;go_ret;exact⟨ret_int (by rw[HV.out,if_pos ⟨by omega,by omega⟩]),rfl⟩
  ·by_cases h3:97≤n
   ·by_cases h4:n≤102
    ·go_enter Tryz.func142,Tryz.ntmps142
     go_wp2;go_ret;exact⟨ret_int (by rw[HV.out,if_neg (by omega),if_pos ⟨by omega,by omega⟩];omega),rfl⟩
    ·go_enter Tryz.func142,Tryz.ntmps142
     go_wp2;go_ret;exact⟨ret_int (by rw[HV.out,if_neg (by omega),if_neg (by omega)]),rfl⟩
   ·go_enter Tryz.func142,Tryz.ntmps142
    go_wp2;go_ret;exact⟨ret_int (by rw[HV.out,if_neg (by omega),if_neg (by omega)]),rfl⟩
 ·have h3:¬ 97≤n:=by omega
  go_enter Tryz.func142,Tryz.ntmps142;go_wp2;go_ret;exact⟨ret_int (by rw[HV.out,if_neg (by omega),if_neg (by omega)]),rfl⟩
theorem drop_at (s:ByteArray) (k:Nat) (hk:k<s.size):s.data.toList.drop k=s[k]::s.data.toList.drop (k+1):=by
 have e:s.data.toList.length=s.size:=Array.length_toList;rw[List.drop_eq_getElem_cons (i:=k) (l:=s.data.toList) (by rw[e];exact hk)];simp;rfl
theorem drop_end (s:ByteArray) (k:Nat) (hk:¬ k<s.size):s.data.toList.drop k=[]:=by
 have e:s.data.toList.length=s.size:=Array.length_toList;rw[List.drop_eq_nil_iff,e];omega
def hexSet:ByteArray:=⟨#[48,49,50,51,52,53,54,55,56,57,97,98,99,100,101,102]⟩
def letSet:ByteArray:=⟨#[110,114,116,34,92,36]⟩
def escSet:ByteArray:=⟨#[10,13,9,34,92,36]⟩
def lookB (set:ByteArray) (r:Bs):Int:=match r with
 | []=> -1
 | c::_=>Lib.indexByte set.data.toList c
theorem indexat_any (set s:ByteArray) (i:Nat) (hi:i≤s.size) (w:World):
  Calls Tryz.prog 162 #[.string set,.string s,.int .i64 i] w fun e w'=>e= .returned (.int .i64 (lookB set (s.data.toList.drop i)))∧w=w':=by
 by_cases hlt:i<s.size
 ·obtain⟨v,hv⟩:∃ v,v=lookB set (s.data.toList.drop i):=⟨_,rfl⟩
  rw[←hv];rw[drop_at s i hlt] at hv
  have K:Hid (∀ w,Calls Tryz.prog 132 #[.string set,.int .u8 (s[i].toNat:Nat)] w fun e w'=>e= .returned (.int .i64 v)∧w=w'):=
   Lib.hid fun w=>(Tryz.strings_IndexByte set (s[i].toNat:Nat) w).mono fun e w' ⟨he,hw⟩=>⟨by rw[he,hv];simp[lookB],hw.symm⟩
  clear hv;go_enter Tryz.func162,Tryz.ntmps162;go_wp2_with (go_at_call 132;((with_reducible refine(K.out _).mono ?_));rintro e w' ⟨rfl,rfl⟩);go_ret;exact⟨rfl,rfl⟩
 ·rw[drop_end s i hlt]
  obtain rfl:i=s.size:=by omega
  go_enter Tryz.func162,Tryz.ntmps162;go_wp2;go_ret;exact⟨rfl,rfl⟩
theorem hex_set:∀ c:UInt8,Lib.indexByte hexSet.data.toList c=hexD c:=all256 _ (by decide+kernel)
theorem at_lt (s:ByteArray) (i:Nat) (hi:i<s.size) (w:World):
  Calls Tryz.prog 125 #[.string s,.int .i64 i] w fun e w'=>e= .returned (.int .u8 s[i].toNat)∧w=w':=by
 go_enter Tryz.func125,Tryz.ntmps125;go_wp2;go_ret;exact⟨rfl,rfl⟩
theorem at_ge (s:ByteArray) (i:Nat) (hi:¬ i<s.size) (w:World):
  Calls Tryz.prog 125 #[.string s,.int .i64 i] w fun e w'=>e= .returned (.int .u8 0)∧w=w':=by
 go_enter Tryz.func125,Tryz.ntmps125;go_wp2;go_ret;exact⟨rfl,rfl⟩
def lookH (r:Bs):Int:=match r with
 | []=> -1
 | c::_=>hexD c
theorem lookH_eq (r:Bs):lookB hexSet r=lookH r:=by
 cases r with
 | nil=>rfl
 | cons c r=>exact hex_set c
theorem lookH_bd (r:Bs): -1≤lookH r∧lookH r≤15:=by
 cases r with
 | nil=>exact⟨by decide,by decide⟩
 | cons c r=>exact hexD_bd c
theorem stepHex_eq (r:Bs):stepHex r=if lookH r<0 then .bad 2 else if lookH r.tail<0 then .bad 3 else .byte (UInt8.ofNat (lookH r * 16+lookH r.tail).toNat) 4:=by
 cases r with
 | nil=>rfl
 | cons c r=>
   cases r with
   | nil=>unfold stepHex;simp[lookH]
   | cons d r=>rfl
def resS (i:Nat):Step→Value
 | .bad k=> .tuple #[.int .u8 0,.int .i64 ((i+k:Nat):Int),.bool false]
 | .byte b k=> .tuple #[.int .u8 b.toNat,.int .i64 ((i+k:Nat):Int),.bool true]
 | _=> .tuple #[]
theorem or_val (v u:Int) (h1:¬ v<0) (h2:v≤15) (h3:¬ u<0) (h4:u≤15):bits .or .i64 (v * 16) u % 256=v * 16+u:=by
 have H:∀ a:Nat,a<16→∀ b:Nat,b<16→bits .or .i64 ((a:Int) * 16) (b:Int) % 256=(a:Int) * 16+b:=by decide+kernel
 have:=H v.toNat (by omega) u.toNat (by omega);rwa [Int.toNat_of_nonneg (by omega),Int.toNat_of_nonneg (by omega)] at this
theorem ret_three {k l:IntKind} {a b c d:Int} {x y:Bool} (h:a=b) (g:c=d) (i:x=y):Ending.returned (.tuple #[.int k a,.int l c,.bool x])= .returned (.tuple #[.int k b,.int l d,.bool y]):=by rw[h,g,i]
theorem idxh_any (s:ByteArray) (i:Nat) (a:Int) (ha:a=i) (hi:i≤s.size) (v:Int) (hv:v=lookH (s.data.toList.drop i)) (w:World):
  Calls Tryz.prog 162 #[.string ⟨#[48,49,50,51,52,53,54,55,56,57,97,98,99,100,101,102]⟩,.string s,.int .i64 a] w fun e w'=>e= .returned (.int .i64 v)∧w=w':=by
 rw[hv,←lookH_eq,ha];exact indexat_any hexSet s i hi w
theorem lookH_lt (s:ByteArray) (i:Nat) (h:¬ lookH (s.data.toList.drop i)<0):i<s.size:=by
 by_cases hlt:i<s.size
 ·exact hlt
 ·rw[drop_end s i hlt] at h;exact absurd (show lookH []<0 by decide) h
theorem readhex_any (s:ByteArray) (i:Nat) (a:Int) (ha:a=(i:Int)+2) (hi:i+2≤s.size) (hs:s.size≤4611686018427387904) (w:World):
  Calls Tryz.prog 161 #[.string s,.int .i64 a] w fun e w'=>e= .returned (resS i (stepHex (s.data.toList.drop (i+2))))∧w=w':=by
 rw[stepHex_eq];have ht:(s.data.toList.drop (i+2)).tail=s.data.toList.drop (i+3):=by simp
 rw[ht];have b1:=lookH_bd (s.data.toList.drop (i+2));have b2:=lookH_bd (s.data.toList.drop (i+3));have hlt:=lookH_lt s (i+2);obtain⟨v,hv⟩:∃ v,v=lookH (s.data.toList.drop (i+2)):=⟨_,rfl⟩;obtain⟨u,hu⟩:∃ u,u=lookH (s.data.toList.drop (i+3)):=⟨_,rfl⟩;have K1:=Lib.hid fun w=>idxh_any s (i+2) a (by omega) hi v hv w
 rw[←hv,←hu];rw[←hv] at b1 hlt;rw[←hu] at b2;obtain⟨b11,b12⟩:=b1;obtain⟨b21,b22⟩:=b2;clear hv ht;have a0:0≤a:=by omega
 have a1:a≤4611686018427387904:=by omega
 by_cases h1:v<0
 ·have HR:Hid (resS i (if v<0 then .bad 2 else if u<0 then .bad 3 else .byte (UInt8.ofNat (v * 16+u).toNat) 4)= .tuple #[.int .u8 0,.int .i64 a,.bool false]):=by
   apply Lib.hid;rw[if_pos h1,ha];rfl
  rw[HR.out];clear hlt hu ha;go_enter Tryz.func161,Tryz.ntmps161;go_wp2_with (go_at_call 162;((with_reducible refine(K1.out _).mono ?_));rintro e w' ⟨rfl,rfl⟩)
  go_ret3
  exact⟨rfl,rfl⟩
 ·have hi3:i+3≤s.size:=hlt h1
  have K2:=Lib.hid fun w=>idxh_any s (i+3) (a+1) (by omega) hi3 u hu w
  by_cases h2:u<0
  ·have HR:Hid (resS i (if v<0 then .bad 2 else if u<0 then .bad 3 else .byte (UInt8.ofNat (v * 16+u).toNat) 4)= .tuple #[.int .u8 0,.int .i64 (a+1),.bool false]):=by
    apply Lib.hid;rw[if_neg h1,if_pos h2,ha];simp[resS];omega
   rw[HR.out];clear hlt hu ha;go_enter Tryz.func161,Tryz.ntmps161;go_wp2_with (go_at_call 162;first | ((with_reducible refine(K1.out _).mono ?_);rintro e w' ⟨rfl,rfl⟩) | ((with_reducible refine(K2.out _).mono ?_);rintro e w' ⟨rfl,rfl⟩))
   go_ret3
   exact⟨rfl,rfl⟩
  ·have HR:Hid (resS i (if v<0 then .bad 2 else if u<0 then .bad 3 else .byte (UInt8.ofNat (v * 16+u).toNat) 4)= .tuple #[.int .u8 (v * 16+u),.int .i64 (a+2),.bool true]):=by
    apply Lib.hid;rw[if_neg h1,if_neg h2,ha]
    have e:((UInt8.ofNat (v * 16+u).toNat).toNat:Int)=v * 16+u:=by
     rw[UInt8.toNat_ofNat'];omega
    simp only[resS,e];congr
   rw[HR.out];clear hlt hu ha;go_enter Tryz.func161,Tryz.ntmps161;go_wp2_with (go_at_call 162;first | ((with_reducible refine(K1.out _).mono ?_);rintro e w' ⟨rfl,rfl⟩) | ((with_reducible refine(K2.out _).mono ?_);rintro e w' ⟨rfl,rfl⟩))
   go_ret3
   exact⟨ret_three (or_val v u (by omega) b12 (by omega) b22) rfl rfl,rfl⟩
theorem esc_cases:∀ c:UInt8,(escD c=none∧Lib.indexByte letSet.data.toList c= -1)∨(escD c=some 10∧Lib.indexByte letSet.data.toList c=0)∨(escD c=some 13∧Lib.indexByte letSet.data.toList c=1)∨
  (escD c=some 9∧Lib.indexByte letSet.data.toList c=2)∨(escD c=some 34∧Lib.indexByte letSet.data.toList c=3)∨(escD c=some 92∧Lib.indexByte letSet.data.toList c=4)∨(escD c=some 36∧Lib.indexByte letSet.data.toList c=5):=
 all256 _ (by decide+kernel)
theorem idxl_any (s:ByteArray) (i:Nat) (hi:i≤s.size) (v:Int) (hv:lookB letSet (s.data.toList.drop i)=v) (w:World):
  Calls Tryz.prog 162 #[.string ⟨#[110,114,116,34,92,36]⟩,.string s,.int .i64 i] w fun e w'=>e= .returned (.int .i64 v)∧w=w':=by
 rw[←hv];exact indexat_any letSet s i hi w
theorem byte_eq {a:UInt8} {n:Nat} (h:a=UInt8.ofNat n) (hn:n<256):((a.toNat:Int)==n)=true:=by
 subst h;simp;omega
theorem byte_ne {a:UInt8} {n:Nat} (h:a≠UInt8.ofNat n) (hn:n<256):((a.toNat:Int)==n)=false:=by
 simp only[beq_eq_false_iff_ne,ne_eq];intro e;apply h;rw[←UInt8.toNat_inj,UInt8.toNat_ofNat'];omega
theorem stepEsc_no {c:UInt8} {t:Bs} (hc:c≠120) (h:escD c=none):stepEsc (c::t)= .bad 1:=by
 unfold stepEsc;simp[hc,h]
theorem readesc_any (s:ByteArray) (i p:Nat) (hp:p=i+1) (hi:p≤s.size) (hs:s.size≤4611686018427387904) (w:World):
  Calls Tryz.prog 150 #[.string s,.int .i64 p] w fun e w'=>e= .returned (resS i (stepEsc (s.data.toList.drop p)))∧w=w':=by
 by_cases hlt:p<s.size
 ·obtain⟨c,hc⟩:∃ c,c=s[p]:=⟨_,rfl⟩
  have hd:=drop_at s p hlt;rw[←hc] at hd;by_cases hx:c=120
  ·have hx1:((s[p].toNat:Int)==120)=true:=byte_eq (n:=120) (by rw[←hc];exact hx) (by omega)
   have K:=Lib.hid fun w=>readhex_any s i ((p:Int)+1) (by omega) (by omega) hs w
   obtain⟨v,hv⟩:∃ v,v=resS i (stepHex (s.data.toList.drop (i+2))):=⟨_,rfl⟩;have e:resS i (stepEsc (s.data.toList.drop p))=v:=by rw[hv,hd,hx];unfold stepEsc;rw[hp];rfl
   rw[e];rw[←hv] at K
   have HV:Hid (∃ a b:Int,∃ x:Bool,v= .tuple #[.int .u8 a,.int .i64 b,.bool x]):=by
    apply Lib.hid;rw[hv,stepHex_eq]
    split
    ·exact⟨_,_,_,rfl⟩
    ·split
     ·exact⟨_,_,_,rfl⟩
     ·exact⟨_,_,_,rfl⟩
   clear hv e hd hx hc;obtain⟨a,b,x,rfl⟩:=HV.out;clear hp;go_enter Tryz.func150,Tryz.ntmps150;go_wp2_with (go_at_call 161;((with_reducible refine(K.out _).mono ?_));rintro e w' ⟨rfl,rfl⟩)
   go_ret3
   exact⟨rfl,rfl⟩
  ·have hx1:((s[p].toNat:Int)==120)=false:=byte_ne (n:=120) (by rw[←hc];exact hx) (by omega)
   have e1:lookB letSet (s.data.toList.drop p)=Lib.indexByte letSet.data.toList c:=by rw[hd];rfl
   have K:=Lib.hid fun v hv w=>idxl_any s p hi v (e1.trans hv) w
   have hn:(p:Int)=((i+1:Nat):Int):=by omega
   have hk:(p:Int)+1=((i+2:Nat):Int):=by omega
   rw[hd];clear e1
   rcases esc_cases c with ⟨h1,h2⟩ | ⟨h1,h2⟩ | ⟨h1,h2⟩ | ⟨h1,h2⟩ | ⟨h1,h2⟩ | ⟨h1,h2⟩ | ⟨h1,h2⟩
   ·rw[stepEsc_no hx h1]
    have K':=Lib.hid (K.out _ h2);have HR:Hid (resS i (.bad 1)= .tuple #[.int .u8 0,.int .i64 p,.bool false]):=by apply Lib.hid;rw[hn];rfl
    rw[HR.out];clear h1 h2 K hd hx hc hp hn hk;go_enter Tryz.func150,Tryz.ntmps150;go_wp2_with (go_at_call 162;((with_reducible refine(K'.out _).mono ?_));rintro e w' ⟨rfl,rfl⟩)
    go_ret3
    exact⟨rfl,rfl⟩
   all_goals
    rw[esc_mk c _ _ hx h1];have K':=Lib.hid (K.out _ h2);unfold resS;dsimp only;rw[←hk];clear h1 h2 K hd hx hc hp hn hk;go_enter Tryz.func150,Tryz.ntmps150;go_wp2_with (go_at_call 162;((with_reducible refine(K'.out _).mono ?_));rintro e w' ⟨rfl,rfl⟩)
    go_ret3
    exact⟨rfl,rfl⟩
 ·obtain rfl:p=s.size:=by omega
  rw[drop_end s s.size hlt];have K:=Lib.hid fun w=>idxl_any s s.size hi (-1) (by rw[drop_end s s.size hlt];rfl) w
  have HR:Hid (resS i (stepEsc [])= .tuple #[.int .u8 0,.int .i64 s.size,.bool false]):=by apply Lib.hid;rw[hp];rfl
  rw[HR.out];clear hp;go_enter Tryz.func150,Tryz.ntmps150;go_wp2_with (go_at_call 162;((with_reducible refine(K.out _).mono ?_));rintro e w' ⟨rfl,rfl⟩)
  go_ret3
  exact⟨rfl,rfl⟩
theorem readbyte_any (s:ByteArray) (i:Nat) (hi:i<s.size) (hs:s.size≤4611686018427387904) (h34:s[i]≠34) (h36:s[i]≠36) (w:World):
  Calls Tryz.prog 136 #[.string s,.int .i64 i] w fun e w'=>e= .returned (resS i (step (s.data.toList.drop i)))∧w=w':=by
 have hd:=drop_at s i hi;by_cases hx:s[i]=92
 ·have hx1:((s[i].toNat:Int)==92)=true:=byte_eq (n:=92) hx (by omega)
  have e:step (s.data.toList.drop i)=stepEsc (s.data.toList.drop (i+1)):=by rw[hd,hx,step_esc]
  rw[e];have K:=Lib.hid fun w=>readesc_any s i (i+1) rfl (by omega) hs w
  obtain⟨v,hv⟩:∃ v,v=resS i (stepEsc (s.data.toList.drop (i+1))):=⟨_,rfl⟩;rw[←hv] at K ⊢
  have HV:Hid (∃ a b:Int,∃ x:Bool,v= .tuple #[.int .u8 a,.int .i64 b,.bool x]):=by
   apply Lib.hid;rw[hv]
   cases hr:stepEsc (s.data.toList.drop (i+1)) with
   | bad k=>exact⟨_,_,_,rfl⟩
   | byte c k=>exact⟨_,_,_,rfl⟩
   | stop=>
     exfalso
     have h2:=stop_form (e.trans hr);obtain⟨t,ht⟩:=h2;rw[hd,hx] at ht;injection ht with ht _
     exact absurd ht (by decide)
   | var nm k=>
     exfalso
     obtain⟨t,ht,_⟩:=svar_form (e.trans hr);rw[hd,hx] at ht;injection ht with ht _
     exact absurd ht (by decide)
  clear hv e hd hx h34 h36;obtain⟨a,b,x,rfl⟩:=HV.out;have K':Hid (∀ w,Calls Tryz.prog 150 #[.string s,.int .i64 ((i:Int)+1)] w fun e w'=>e= .returned (.tuple #[.int .u8 a,.int .i64 b,.bool x])∧w=w'):=K;clear K;go_enter Tryz.func136,Tryz.ntmps136;go_wp2_with (go_at_call 150;((with_reducible refine(K'.out _).mono ?_));rintro e w' ⟨rfl,rfl⟩)
  go_ret3
  exact⟨rfl,rfl⟩
 ·have hx1:((s[i].toNat:Int)==92)=false:=byte_ne (n:=92) hx (by omega)
  by_cases hp:plainB s[i]=true
  ·have e:step (s.data.toList.drop i)= .byte s[i] 1:=by rw[hd,step_plain _ _ hp]
   have K:=Lib.hid fun w=>plain_any s[i] w
   rw[hp] at K;have HR:Hid (resS i (step (s.data.toList.drop i))= .tuple #[.int .u8 s[i].toNat,.int .i64 ((i:Int)+1),.bool true]):=by apply Lib.hid;rw[e];rfl
   rw[HR.out];clear e hd hx h34 h36 hp;go_enter Tryz.func136,Tryz.ntmps136;go_wp2_with (go_at_call 131;((with_reducible refine(K.out _).mono ?_));rintro e w' ⟨rfl,rfl⟩)
   go_ret3
   exact⟨rfl,rfl⟩
  ·have e:step (s.data.toList.drop i)= .bad 0:=by rw[hd];unfold step;simp[h34,h36,hx,hp]
   have K:=Lib.hid fun w=>plain_any s[i] w
   rw[Bool.eq_false_iff.2 hp] at K;have HR:Hid (resS i (step (s.data.toList.drop i))= .tuple #[.int .u8 0,.int .i64 (i:Int),.bool false]):=by apply Lib.hid;rw[e];rfl
   rw[HR.out];clear e hd hx h34 h36 hp;go_enter Tryz.func136,Tryz.ntmps136;go_wp2_with (go_at_call 131;((with_reducible refine(K.out _).mono ?_));rintro e w' ⟨rfl,rfl⟩)
   go_ret3
   exact⟨rfl,rfl⟩
theorem toList_data (s:ByteArray):s.toList=s.data.toList:=Lib.toList_data s
theorem len_data (s:ByteArray):s.data.toList.length=s.size:=Array.length_toList
theorem drop0 (s:ByteArray):s.data.toList.drop 0=s.data.toList:=rfl
theorem isEmpty_f (s:ByteArray) (h:0<s.size):s.toList.isEmpty=false:=by
 rw[toList_data];simp only[List.isEmpty_eq_false_iff,ne_eq];intro e;have:=congrArg List.length e;rw[len_data,List.length_nil] at this;omega
theorem isEmpty_t (s:ByteArray) (h:¬ 0<s.size):s.data.toList=[]:=by
 apply List.eq_nil_of_length_eq_zero;rw[len_data];omega
theorem namebytes_any (s:ByteArray) (hs:s.size≤4611686018427387904) (w:World):
  Calls Tryz.prog 77 #[.string s] w fun e w'=>e= .returned (.int .i64 (nameLen s.data.toList))∧w=w':=by
 by_cases h0:0<s.size
 ·have he:=isEmpty_f s h0
  have hd:=drop_at s 0 h0;rw[drop0] at hd;obtain⟨N,hN⟩:∃ N,N=nameLen s.data.toList:=⟨_,rfl⟩;rw[←hN];rw[hd,nameLen_cons] at hN;have KD:=Lib.hid fun w=>isdig_any s[0] w
  have KL:=Lib.hid fun w=>islow_any s[0] w
  by_cases h1:isDig s[0]=true
  ·rw[if_pos h1] at hN
   rw[h1] at KD;subst hN;clear hd h1 KL;go_enter Tryz.func77,Tryz.ntmps77;go_wp2_with (go_at_call 110;((with_reducible refine(KD.out _).mono ?_));rintro e w' ⟨rfl,rfl⟩);go_ret;exact⟨rfl,rfl⟩
  ·rw[if_neg h1] at hN
   rw[Bool.eq_false_iff.2 h1] at KD;by_cases h2:isLow s[0]=true
   ·rw[if_pos h2] at hN
    rw[h2] at KL;have HN:=Lib.hid hN;clear hd h1 h2 hN;go_enter Tryz.func77,Tryz.ntmps77;go_wp2_with (first | (go_at_call 110;((with_reducible refine(KD.out _).mono ?_));rintro e w' ⟨rfl,rfl⟩) | (go_at_call 111;((with_reducible refine(KL.out _).mono ?_));rintro e w' ⟨rfl,rfl⟩))
    go_loop [3] (fun n=>∃ k:Nat,1≤k∧k≤8∧k≤s.size∧n= .int .i64 k∧N=tk (8 - k) (s.data.toList.drop k)+k) (fun n=>8 - (intOf n).toNat)
    case atStart=>exact⟨1,by omega,by omega,by omega,rfl,HN.out⟩
    case round=>
     obtain⟨k,k1,k8,hk,rfl,hn⟩:=hrel;have HK:=Lib.hid hn;clear hn;by_cases a:k<s.size
     ·by_cases b:k<8
      ·have KI:=Lib.hid fun w=>isin_any s[k] w
       have hd:=drop_at s k a;by_cases c:isIn s[k]=true
       ·rw[c] at KI
        have HX:Hid (N=tk (8 - (k+1)) (s.data.toList.drop (k+1))+(k+1)):=by
         apply Lib.hid;rw[HK.out,hd,show 8 - k=(8 - (k+1))+1 by omega,tk_cons,if_pos c];omega
        clear hd c;go_wp2_with (go_at_call 112;((with_reducible refine(KI.out _).mono ?_));rintro e w' ⟨rfl,rfl⟩)
        go_round
        case rel=>exact⟨k+1,by omega,by omega,by omega,by go_num,HX.out⟩
        case measure=>simp[intOf];omega
       ·rw[Bool.eq_false_iff.2 c] at KI
        have HX:Hid ((k:Int)=N):=by
         apply Lib.hid;rw[HK.out,hd,show 8 - k=(8 - (k+1))+1 by omega,tk_cons,if_neg c];omega
        clear hd c;go_wp2_with (go_at_call 112;((with_reducible refine(KI.out _).mono ?_));rintro e w' ⟨rfl,rfl⟩);go_ret;exact⟨ret_int HX.out,rfl⟩
      ·have HX:Hid ((k:Int)=N):=by
        apply Lib.hid;rw[HK.out,show 8 - k=0 by omega];simp[tk]
       go_wp2;go_ret;exact⟨ret_int HX.out,rfl⟩
     ·have HX:Hid ((k:Int)=N):=by
       apply Lib.hid;rw[HK.out,drop_end s k a];cases 8 - k <;> simp[tk]
      go_wp2;go_ret;exact⟨ret_int HX.out,rfl⟩
   ·rw[if_neg h2] at hN
    rw[Bool.eq_false_iff.2 h2] at KL;subst hN;clear hd h1 h2;go_enter Tryz.func77,Tryz.ntmps77;go_wp2_with (first | (go_at_call 110;((with_reducible refine(KD.out _).mono ?_));rintro e w' ⟨rfl,rfl⟩) | (go_at_call 111;((with_reducible refine(KL.out _).mono ?_));rintro e w' ⟨rfl,rfl⟩));go_ret;exact⟨rfl,rfl⟩
 ·have e:=isEmpty_t s h0
  have he:s.toList.isEmpty=true:=by rw[toList_data,e];rfl
  have he2:s.toList=[]:=by rw[toList_data,e]
  rw[e];clear e;go_enter Tryz.func77,Tryz.ntmps77;go_wp2;go_ret;exact⟨rfl,rfl⟩
end Go.Proofs.YtdobinjbejagcaaGreatDoor
