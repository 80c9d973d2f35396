import Derived.WalkKit
import Derived.BigQuiet
import Derived.Below
import Derived.Test.YtfgcdppebeojbaaGreatDoorRows
import Derived.WalkSpells
import Derived.WalkLawsBesides
import Derived.Lib.Hide
import Derived.Outline
import Derived.Test.YtfgcdppebeojbaaGreatDoorShelf
import Derived.Deep.QuietTactic
import Derived.Deep.Draws
import Derived.Laws.IdiomStrings
import Derived.Laws.OwnMore
import Derived.Lib.SmallJoins
import Derived.Lib.UnsafeStr
import Derived.Laws.StructEq
import Derived.RegionTactic
import Derived.ChangeAlike
import Derived.Deep.RegionLaw
import Derived.Lib.AppendStr
namespace Go.Proofs.YtfgcdppebeojbaaGreatDoor
open Go Go.RowKit
set_option maxRecDepth 100000
set_option maxHeartbeats 4000000
abbrev Bs:=List UInt8
abbrev Pt:=List UInt8 × List UInt8
theorem all256 (P:UInt8→Prop) (h:∀ n,n<256→P (UInt8.ofNat n)) (c:UInt8):P c:=by
 have:=h c.toNat (UInt8.toNat_lt c);rwa [UInt8.ofNat_toNat] at this
def isDig (c:UInt8):Bool:=decide (48≤(c.toNat:Int)∧(c.toNat:Int)≤57)
def isLow (c:UInt8):Bool:=decide (97≤(c.toNat:Int)∧(c.toNat:Int)≤122)
def isIn (c:UInt8):Bool:=isLow c || isDig c || decide ((c.toNat:Int)=95)
def plainB (c:UInt8):Bool:=decide (32≤(c.toNat:Int)∧(c.toNat:Int)≤126∧¬ (c.toNat:Int)=34∧¬ (c.toNat:Int)=92∧¬ (c.toNat:Int)=36)
def hexD (c:UInt8):Int:=if 48≤(c.toNat:Int)∧(c.toNat:Int)≤57 then (c.toNat:Int) - 48 else if 97≤(c.toNat:Int)∧(c.toNat:Int)≤102 then (c.toNat:Int) - 87 else -1
def escD (c:UInt8):Option UInt8:=if c=110 then some 10 else if c=114 then some 13 else if c=116 then some 9 else if c=34 then some 34 else if c=92 then some 92 else if c=36 then some 36 else none
def tk:Nat→Bs→Nat
 | 0,_=>0
 | _+1,[]=>0
 | k+1,c::r=>if isIn c then tk k r+1 else 0
def nameLen:Bs→Nat
 | []=>0
 | c::r=>if isDig c then 1 else if isLow c then tk 7 r+1 else 0
def isName (l:Bs):Bool:= !l.isEmpty && decide (nameLen l=l.length)
inductive Step where
 | bad (k:Nat) | stop | var (nm:Bs) (k:Nat) | byte (c:UInt8) (k:Nat)
def stepVar:Bs→Step
 | []=> .bad 1
 | c::r=>if c=123 then (if nameLen r=0 then .bad 2 else match r.drop (nameLen r) with
  | []=> .bad (2+nameLen r)
  | d::_=>if d=125 then .var (r.take (nameLen r)) (nameLen r+3) else .bad (2+nameLen r)) else .bad 1
def stepHex:Bs→Step
 | []=> .bad 2
 | h::r=>if hexD h<0 then .bad 2 else match r with
   | []=> .bad 3
   | l::_=>if hexD l<0 then .bad 3 else .byte (UInt8.ofNat (hexD h * 16+hexD l).toNat) 4
def stepEsc:Bs→Step
 | []=> .bad 1
 | c::r=>if c=120 then stepHex r else match escD c with
   | some b=> .byte b 2
   | none=> .bad 1
def step:Bs→Step
 | []=> .bad 0
 | c::r=>if c=34 then .stop else if c=36 then stepVar r else if c=92 then stepEsc r else if plainB c then .byte c 1 else .bad 0
def flush (ps:List Pt) (t:Bs):List Pt:=if t=[] then ps else ps++[([],t)]
def go:Nat→Bs→Nat→List Pt→Bs→Option (List Pt) × Nat
 | 0,_,pos,_,_=>(none,pos)
 | f+1,r,pos,ps,t=>match step r with
   | .bad k=>(none,pos+k)
   | .stop=>(some (flush ps t),pos+1)
   | .var nm k=>go f (r.drop k) (pos+k) (flush ps t++[(nm,[])]) []
   | .byte c k=>go f (r.drop k) (pos+k) ps (t++[c])
def parse:Bs→Option (List Pt) × Nat
 | []=>(none,0)
 | c::r=>if c=34 then go (r.length+1) r 1 [] [] else (none,0)
def hexC (n:Nat):UInt8:=if n<10 then UInt8.ofNat (48+n) else UInt8.ofNat (87+n)
def prB (c:UInt8):Bs:=if plainB c then [c] else if c=10 then [92,110] else if c=13 then [92,114] else if c=9 then [92,116] else if c=34 then [92,34] else if c=92 then [92,92] else if c=36 then [92,36]
 else [92,120,hexC (c.toNat / 16),hexC (c.toNat % 16)]
def prV (nm:Bs):Bs:=if nm=[] then [] else 36::123::(nm++[125])
def prP (p:Pt):Bs:=prV p.1++p.2.flatMap prB
def print (ps:List Pt):Bs:=34::(ps.flatMap prP++[34])
def okP (b:Bool) (p:Pt):Bool:=if p.1=[] then !p.2.isEmpty && !b else p.2.isEmpty && isName p.1
def may:Bool→List Pt→Bool
 | _,[]=>true
 | b,p::r=>okP b p && may (decide (p.1=[])) r
theorem tk_cons (k:Nat) (c:UInt8) (r:Bs):tk (k+1) (c::r)=if isIn c then tk k r+1 else 0:=rfl
theorem nameLen_cons (c:UInt8) (r:Bs):nameLen (c::r)=if isDig c then 1 else if isLow c then tk 7 r+1 else 0:=rfl
theorem tk_le:∀ (k:Nat) (l:Bs),tk k l≤l.length∧tk k l≤k
 | 0,l=>by simp[tk]
 | k+1,[]=>by simp[tk]
 | k+1,c::r=>by
   have:=tk_le k r;rw[tk_cons];split
   ·simp;omega
   ·simp
theorem tk_more:∀ (k:Nat) (l m:Bs),(tk k l<l.length∨tk k l=k)→tk k (l++m)=tk k l
 | 0,l,m,_=>by simp[tk]
 | k+1,[],m,h=>by simp[tk] at h
 | k+1,c::r,m,h=>by
   rw[tk_cons] at h;rw[List.cons_append,tk_cons,tk_cons];by_cases hc:isIn c=true
   ·simp only[hc,if_true] at h ⊢
    have:=tk_more k r m (by simp at h;omega);omega
   ·simp[hc]
theorem tk_take:∀ (k:Nat) (l:Bs) (n:Nat),tk k l≤n→n≤l.length→tk k (l.take n)=tk k l
 | 0,l,n,_,_=>by simp[tk]
 | k+1,[],n,_,_=>by simp[tk]
 | k+1,c::r,0,h,_=>by
   rw[tk_cons] at h ⊢;by_cases hc:isIn c=true
   ·simp[hc] at h
   ·simp[hc,tk]
 | k+1,c::r,n+1,h,hn=>by
   rw[tk_cons] at h;rw[List.take_succ_cons,tk_cons,tk_cons];by_cases hc:isIn c=true
   ·simp only[hc,if_true] at h ⊢
    rw[tk_take k r n (by omega) (by simpa using hn)]
   ·simp[hc]
theorem nameLen_le (l:Bs):nameLen l≤l.length∧nameLen l≤8:=by
 cases l with
 | nil=>simp[nameLen]
 | cons c r=>
   have:=tk_le 7 r;rw[nameLen_cons];split
   ·simp
   ·split
    ·simp;omega
    ·simp
theorem nameLen_more (l m:Bs) (h:nameLen l<l.length):nameLen (l++m)=nameLen l:=by
 cases l with
 | nil=>simp at h
 | cons c r=>
   rw[nameLen_cons] at h;rw[List.cons_append,nameLen_cons,nameLen_cons];by_cases hd:isDig c=true
   ·simp[hd]
   ·by_cases hc:isLow c=true
    ·simp only[hd,hc,if_true] at h ⊢
     rw[tk_more 7 r m (by simp at h;omega)]
    ·simp[hd,hc]
theorem nameLen_take (l:Bs) (n:Nat) (h:nameLen l≤n) (h0:0<n) (hn:n≤l.length):nameLen (l.take n)=nameLen l:=by
 cases l with
 | nil=>simp
 | cons c r=>
   obtain⟨n,rfl⟩:∃ k,n=k+1:=⟨n - 1,by omega⟩;rw[nameLen_cons] at h;rw[List.take_succ_cons,nameLen_cons,nameLen_cons];by_cases hd:isDig c=true
   ·simp[hd]
   ·by_cases hc:isLow c=true
    ·simp only[hd,hc,if_true] at h ⊢
     rw[tk_take 7 r n (by simp at h;omega) (by simpa using hn)]
    ·simp[hd,hc]
theorem hexD_bd (c:UInt8): -1≤hexD c∧hexD c≤15:=by
 unfold hexD;split
 ·omega
 ·split <;> omega
theorem stepVar_var {r nm:Bs} {k:Nat} (h:stepVar r= .var nm k):∃ n,n=nameLen r.tail∧0<n∧nm=r.tail.take n∧k=n+3∧n+1<r.length∧r.head?=some 123∧(r.tail.drop n).head?=some 125:=by
 cases r with
 | nil=>simp[stepVar] at h
 | cons c r=>
   unfold stepVar at h;dsimp only at h
   split at h
   ·rename_i hc
    split at h
    ·cases h
    ·rename_i hn
     split at h
     ·cases h
     ·rename_i d t hd
      split at h
      ·rename_i hd2
       injection h with h1 h2
       have hl:=congrArg List.length hd;simp at hl;refine⟨nameLen r,rfl,by omega,h1.symm,h2.symm,by simp;omega,by simp[hc],by simp[hd,hd2]⟩
      ·cases h
   ·cases h
theorem stepVar_bad {r:Bs} {k:Nat} (h:stepVar r= .bad k):1≤k∧k≤r.length+1:=by
 cases r with
 | nil=>simp[stepVar] at h;subst h;simp
 | cons c r=>
   have:=nameLen_le r;unfold stepVar at h;dsimp only at h
   split at h
   ·split at h
    ·injection h with h;subst h;simp
    ·split at h
     ·injection h with h;subst h;simp;omega
     ·split at h
      ·cases h
      ·injection h with h;subst h;simp;omega
   ·injection h with h;subst h;simp
theorem nameLen_swap (r:Bs) (d:UInt8) (t t':Bs) (h:nameLen (r++d::t)=r.length) (h0:r≠[]):nameLen (r++d::t')=r.length:=by
 have hl:0<r.length:=List.length_pos_iff.2 h0;have h1:=nameLen_take (r++d::t) (r.length+1) (by omega) (by omega) (by simp)
 have e:(r++d::t).take (r.length+1)=r++[d]:=by
  rw[List.take_append,List.take_of_length_le (by omega)];simp
 rw[e,h] at h1;have h2:=nameLen_more (r++[d]) t' (by simp;omega);rw[h1] at h2;rw[←h2];simp
theorem nameLen_self (r:Bs) (d:UInt8) (t:Bs) (h:nameLen (r++d::t)=r.length) (h0:r≠[]):nameLen r=r.length:=by
 have hl:0<r.length:=List.length_pos_iff.2 h0;have h1:=nameLen_take (r++d::t) r.length (by omega) hl (by simp);rw[h] at h1;simpa using h1
theorem var_form {r nm:Bs} {k:Nat} (h:stepVar r= .var nm k):∃ t,r=123::(nm++125::t)∧nameLen (nm++125::t)=nm.length∧nm≠[]∧k=nm.length+3:=by
 obtain⟨n,hn,h0,hnm,hk,hl,hh,hd⟩:=stepVar_var h
 cases r with
 | nil=>simp at hh
 | cons c r=>
   simp only[List.tail_cons,List.head?_cons,Option.some.injEq,List.length_cons] at hn hnm hh hd hl;have hnl:nm.length=n:=by rw[hnm,List.length_take];omega
   have ht:r.drop n=125::(r.drop n).tail:=by
    cases hx:r.drop n with
    | nil=>rw[hx] at hd;simp at hd
    | cons a b=>rw[hx] at hd;simp at hd;simp[hd]
   have hr:r=nm++125::(r.drop n).tail:=by rw[←ht,hnm];exact(List.take_append_drop n r).symm
   refine⟨(r.drop n).tail,?_,?_,?_,?_⟩
   ·rw[hh];exact congrArg _ hr
   ·rw[←hr,←hn,hnl]
   ·intro e;rw[e] at hnl;simp at hnl;omega
   ·omega
theorem var_mk (nm t:Bs) (h:nameLen (nm++125::t)=nm.length) (h0:nm≠[]):stepVar (123::(nm++125::t))= .var nm (nm.length+3):=by
 have hl:0<nm.length:=List.length_pos_iff.2 h0;unfold stepVar;simp only[if_true,h];rw[if_neg (by omega)];simp
theorem esc_form {r:Bs} {b:UInt8} {k:Nat} (h:stepEsc r= .byte b k):(∃ c t,r=c::t∧c≠120∧escD c=some b∧k=2)∨∃ c d t,r=120::c::d::t∧0≤hexD c∧0≤hexD d∧b=UInt8.ofNat (hexD c * 16+hexD d).toNat∧k=4:=by
 cases r with
 | nil=>simp[stepEsc] at h
 | cons c r=>
   unfold stepEsc at h;dsimp only at h
   split at h
   ·rename_i hc
    subst hc
    cases r with
    | nil=>simp[stepHex] at h
    | cons x r=>
      unfold stepHex at h;dsimp only at h
      split at h
      ·cases h
      ·cases r with
       | nil=>simp at h
       | cons y r=>
         dsimp only at h
         split at h
         ·cases h
         ·injection h with h1 h2
          exact .inr ⟨x,y,r,rfl,by omega,by omega,h1.symm,h2.symm⟩
   ·rename_i hc
    split at h
    ·rename_i b' hb
     injection h with h1 h2
     exact .inl ⟨c,r,rfl,hc,by rw[hb,h1],h2.symm⟩
    ·cases h
theorem esc_mk (c b:UInt8) (t:Bs) (h:c≠120) (hb:escD c=some b):stepEsc (c::t)= .byte b 2:=by
 unfold stepEsc;simp only;rw[if_neg h,hb]
theorem hex_mk (c d:UInt8) (t:Bs) (h:0≤hexD c) (hb:0≤hexD d):stepEsc (120::c::d::t)= .byte (UInt8.ofNat (hexD c * 16+hexD d).toNat) 4:=by
 have e:stepEsc (120::c::d::t)=if hexD c<0 then .bad 2 else if hexD d<0 then .bad 3 else .byte (UInt8.ofNat (hexD c * 16+hexD d).toNat) 4:=rfl
 rw[e,if_neg (by omega),if_neg (by omega)]
theorem byte_form {r:Bs} {b:UInt8} {k:Nat} (h:step r= .byte b k):(∃ t,r=b::t∧plainB b=true∧k=1)∨(∃ c t,r=92::c::t∧c≠120∧escD c=some b∧k=2)∨
  ∃ c d t,r=92::120::c::d::t∧0≤hexD c∧0≤hexD d∧b=UInt8.ofNat (hexD c * 16+hexD d).toNat∧k=4:=by
 cases r with
 | nil=>simp[step] at h
 | cons c r=>
   unfold step at h;dsimp only at h
   split at h
   ·cases h
   ·split at h
    ·exfalso
     unfold stepVar at h
     split at h
     ·cases h
     ·split at h
      ·split at h
       ·cases h
       ·split at h
        ·cases h
        ·split at h <;> cases h
      ·cases h
    ·split at h
     ·rename_i hc
      subst hc
      rcases esc_form h with ⟨c,t,rfl,h1⟩ | ⟨c,d,t,rfl,h1⟩
      ·exact .inr (.inl ⟨c,t,rfl,h1⟩)
      ·exact .inr (.inr ⟨c,d,t,rfl,h1⟩)
     ·split at h
      ·rename_i hp
       injection h with h1 h2
       subst h1;exact .inl ⟨r,rfl,hp,h2.symm⟩
      ·cases h
theorem plain_ne {b:UInt8} (h:plainB b=true):b≠34∧b≠36∧b≠92:=by
 refine⟨?_,?_,?_⟩ <;> (rintro rfl;revert h;decide)
theorem step_plain (b:UInt8) (t:Bs) (h:plainB b=true):step (b::t)= .byte b 1:=by
 obtain⟨h1,h2,h3⟩:=plain_ne h;unfold step;simp[h1,h2,h3,h]
theorem step_esc (t:Bs):step (92::t)=stepEsc t:=by unfold step;simp
theorem step_dollar (t:Bs):step (36::t)=stepVar t:=by unfold step;simp
theorem step_quote (t:Bs):step (34::t)= .stop:=by unfold step;simp
theorem stop_form {r:Bs} (h:step r= .stop):∃ t,r=34::t:=by
 cases r with
 | nil=>simp[step] at h
 | cons c r=>
   by_cases hc:c=34
   ·exact⟨r,by rw[hc]⟩
   ·exfalso
    unfold step at h;dsimp only at h;rw[if_neg hc] at h
    split at h
    ·unfold stepVar at h
     split at h
     ·cases h
     ·split at h
      ·split at h
       ·cases h
       ·split at h
        ·cases h
        ·split at h <;> cases h
      ·cases h
    ·split at h
     ·unfold stepEsc at h
      split at h
      ·cases h
      ·split at h
       ·unfold stepHex at h
        split at h
        ·cases h
        ·split at h
         ·cases h
         ·split at h
          ·cases h
          ·split at h <;> cases h
       ·split at h <;> cases h
     ·split at h <;> cases h
theorem svar_form {r nm:Bs} {k:Nat} (h:step r= .var nm k):∃ t,r=36::123::(nm++125::t)∧nameLen (nm++125::t)=nm.length∧nm≠[]∧k=nm.length+3:=by
 cases r with
 | nil=>simp[step] at h
 | cons c r=>
   unfold step at h;dsimp only at h
   split at h
   ·cases h
   ·split at h
    ·rename_i hc
     obtain⟨t,hr,h1⟩:=var_form h;exact⟨t,by rw[hc,hr],h1⟩
    ·exfalso
     split at h
     ·unfold stepEsc at h
      split at h
      ·cases h
      ·split at h
       ·unfold stepHex at h
        split at h
        ·cases h
        ·split at h
         ·cases h
         ·split at h
          ·cases h
          ·split at h <;> cases h
       ·split at h <;> cases h
     ·split at h <;> cases h
theorem step_var (nm t:Bs) (h:nameLen (nm++125::t)=nm.length) (h0:nm≠[]):step (36::123::(nm++125::t))= .var nm (nm.length+3):=by
 rw[step_dollar,var_mk nm t h h0]
theorem byte_local {r:Bs} {b:UInt8} {k:Nat} (h:step r= .byte b k):0<k∧k≤r.length∧∀ X,step (r.take k++X)= .byte b k:=by
 rcases byte_form h with ⟨t,rfl,hp,rfl⟩ | ⟨c,t,rfl,hc,hb,rfl⟩ | ⟨c,d,t,rfl,hc,hd,rfl,rfl⟩
 ·exact⟨by omega,by simp,fun X=>step_plain b X hp⟩
 ·exact⟨by omega,by simp,fun X=>by simp only[List.take_succ_cons,List.take_zero,List.cons_append,List.nil_append];rw[step_esc,esc_mk c b X hc hb]⟩
 ·exact⟨by omega,by simp,fun X=>by simp only[List.take_succ_cons,List.take_zero,List.cons_append,List.nil_append];rw[step_esc,hex_mk c d X hc hd]⟩
theorem var_local {r nm:Bs} {k:Nat} (h:step r= .var nm k):0<k∧k≤r.length∧∀ X,step (r.take k++X)= .var nm k:=by
 obtain⟨t,rfl,hn,h0,rfl⟩:=svar_form h;refine⟨by omega,by simp,fun X=>?_⟩
 have e:(36::123::(nm++125::t)).take (nm.length+3)++X=36::123::(nm++125::X):=by
  simp[List.take_append,List.take_of_length_le]
 rw[e];exact step_var nm X (nameLen_swap nm 125 t X hn h0) h0
theorem bad_le {r:Bs} {k:Nat} (h:step r= .bad k):k≤r.length:=by
 cases r with
 | nil=>simp[step] at h;omega
 | cons c r=>
   unfold step at h;dsimp only at h
   split at h
   ·cases h
   ·split at h
    ·have:=stepVar_bad h;simp;omega
    ·split at h
     ·unfold stepEsc at h
      split at h
      ·injection h with h;subst h;simp
      ·split at h
       ·unfold stepHex at h
        split at h
        ·injection h with h;subst h;simp
        ·split at h
         ·injection h with h;subst h;simp
         ·split at h
          ·injection h with h;subst h;simp
          ·split at h
           ·injection h with h;subst h;simp
           ·cases h
       ·split at h
        ·cases h
        ·injection h with h;subst h;simp
     ·split at h
      ·cases h
      ·injection h with h;subst h;simp
theorem go_fuel:∀ (f g:Nat) (r:Bs) (pos:Nat) (ps:List Pt) (t:Bs),r.length<f→r.length<g→go f r pos ps t=go g r pos ps t
 | 0,_,_,_,_,_,h,_=>by omega
 | _,0,_,_,_,_,_,h=>by omega
 | f+1,g+1,r,pos,ps,t,hf,hg=>by
   unfold go
   split
   ·rfl
   ·rfl
   ·rename_i nm k h
    obtain⟨h0,h1,_⟩:=var_local h;exact go_fuel f g _ _ _ _ (by rw[List.length_drop];omega) (by rw[List.length_drop];omega)
   ·rename_i c k h
    obtain⟨h0,h1,_⟩:=byte_local h;exact go_fuel f g _ _ _ _ (by rw[List.length_drop];omega) (by rw[List.length_drop];omega)
def goN (r:Bs) (pos:Nat) (ps:List Pt) (t:Bs):Option (List Pt) × Nat:=go (r.length+1) r pos ps t
theorem goN_bad {r:Bs} {k:Nat} (h:step r= .bad k) (pos:Nat) (ps:List Pt) (t:Bs):goN r pos ps t=(none,pos+k):=by
 unfold goN go;rw[h]
theorem goN_stop {r:Bs} (h:step r= .stop) (pos:Nat) (ps:List Pt) (t:Bs):goN r pos ps t=(some (flush ps t),pos+1):=by
 unfold goN go;rw[h]
theorem goN_var {r nm:Bs} {k:Nat} (h:step r= .var nm k) (pos:Nat) (ps:List Pt) (t:Bs):goN r pos ps t=goN (r.drop k) (pos+k) (flush ps t++[(nm,[])]) []:=by
 obtain⟨h0,h1,_⟩:=var_local h;unfold goN;rw[show go (r.length+1) r pos ps t=go r.length (r.drop k) (pos+k) (flush ps t++[(nm,[])]) [] by rw[go,h]];exact go_fuel _ _ _ _ _ _ (by rw[List.length_drop];omega) (by omega)
theorem goN_byte {r:Bs} {c:UInt8} {k:Nat} (h:step r= .byte c k) (pos:Nat) (ps:List Pt) (t:Bs):goN r pos ps t=goN (r.drop k) (pos+k) ps (t++[c]):=by
 obtain⟨h0,h1,_⟩:=byte_local h;unfold goN;rw[show go (r.length+1) r pos ps t=go r.length (r.drop k) (pos+k) ps (t++[c]) by rw[go,h]];exact go_fuel _ _ _ _ _ _ (by rw[List.length_drop];omega) (by omega)
theorem parse_quote (r:Bs):parse (34::r)=goN r 1 [] []:=by unfold parse goN;simp
theorem parse_no (c:UInt8) (r:Bs) (h:c≠34):parse (c::r)=(none,0):=by unfold parse;simp[h]
theorem step_cases (r:Bs):(∃ k,step r= .bad k)∨step r= .stop∨(∃ nm k,step r= .var nm k)∨∃ c k,step r= .byte c k:=by
 cases h:step r with
 | bad k=>exact .inl ⟨k,rfl⟩
 | stop=>exact .inr (.inl rfl)
 | var nm k=>exact .inr (.inr (.inl ⟨nm,k,rfl⟩))
 | byte c k=>exact .inr (.inr (.inr ⟨c,k,rfl⟩))
theorem goN_ind {P:Bs→Nat→List Pt→Bs→Prop} (hb:∀ r k pos ps t,step r= .bad k→P r pos ps t) (hs:∀ r pos ps t,step r= .stop→P r pos ps t)
  (hv:∀ r nm k pos ps t,step r= .var nm k→0<k→k≤r.length→P (r.drop k) (pos+k) (flush ps t++[(nm,[])]) []→P r pos ps t)
  (hc:∀ r c k pos ps t,step r= .byte c k→0<k→k≤r.length→P (r.drop k) (pos+k) ps (t++[c])→P r pos ps t):
  ∀ (n:Nat) (r:Bs) (pos:Nat) (ps:List Pt) (t:Bs),r.length<n→P r pos ps t
 | 0,r,_,_,_,h=>by omega
 | n+1,r,pos,ps,t,hl=>by
   rcases step_cases r with ⟨k,h⟩ | h | ⟨nm,k,h⟩ | ⟨c,k,h⟩
   ·exact hb r k pos ps t h
   ·exact hs r pos ps t h
   ·obtain⟨h0,h1,_⟩:=var_local h
    exact hv r nm k pos ps t h h0 h1 (goN_ind hb hs hv hc n _ _ _ _ (by rw[List.length_drop];omega))
   ·obtain⟨h0,h1,_⟩:=byte_local h
    exact hc r c k pos ps t h h0 h1 (goN_ind hb hs hv hc n _ _ _ _ (by rw[List.length_drop];omega))
theorem goN_bd (r:Bs) (pos:Nat) (ps:List Pt) (t:Bs):pos≤(goN r pos ps t).2∧(goN r pos ps t).2≤pos+r.length∧
  ((goN r pos ps t).1.isSome→pos<(goN r pos ps t).2∧r[(goN r pos ps t).2 - 1 - pos]?=some 34):=by
 refine goN_ind (P:=fun r pos ps t=>pos≤(goN r pos ps t).2∧(goN r pos ps t).2≤pos+r.length∧((goN r pos ps t).1.isSome→pos<(goN r pos ps t).2∧r[(goN r pos ps t).2 - 1 - pos]?=some 34)) ?_ ?_ ?_ ?_ (r.length+1) r pos ps t (Nat.lt_succ_self _)
 ·intro r k pos ps t h
  rw[goN_bad h];have:=bad_le h;exact⟨by simp,by simpa using this,fun h=>by simp at h⟩
 ·intro r pos ps t h
  rw[goN_stop h];obtain⟨t',rfl⟩:=stop_form h;exact⟨by simp,by simp,fun _=>⟨by simp,by simp⟩⟩
 ·intro r nm k pos ps t h h0 h1 ih
  rw[goN_var h];obtain⟨a,b,c⟩:=ih;rw[List.length_drop] at b;refine⟨by omega,by omega,fun hs=>?_⟩;obtain⟨c1,c2⟩:=c hs;rw[List.getElem?_drop] at c2;refine⟨by omega,?_⟩;rw[←c2];congr 1;omega
 ·intro r c k pos ps t h h0 h1 ih
  rw[goN_byte h];obtain⟨a,b,c⟩:=ih;rw[List.length_drop] at b;refine⟨by omega,by omega,fun hs=>?_⟩;obtain⟨c1,c2⟩:=c hs;rw[List.getElem?_drop] at c2;refine⟨by omega,?_⟩;rw[←c2];congr 1;omega
theorem parse_bd (l:Bs):(parse l).2≤l.length∧((parse l).1.isSome→0<(parse l).2∧l[(parse l).2 - 1]?=some 34):=by
 cases l with
 | nil=>exact⟨by simp[parse],fun h=>by simp[parse] at h⟩
 | cons c r=>
   by_cases hc:c=34
   ·subst hc
    rw[parse_quote];obtain⟨a,b,d⟩:=goN_bd r 1 [] [];refine⟨by simp;omega,fun h=>?_⟩;obtain⟨d1,d2⟩:=d h;refine⟨by omega,?_⟩;generalize (goN r 1 [] []).2=n at a b d1 d2 ⊢;obtain⟨k,rfl⟩:∃ k,n=k+2:=⟨n - 2,by omega⟩;simpa using d2
   ·rw[parse_no c r hc];exact⟨by simp,fun h=>by simp at h⟩
def lastT:Bool→List Pt→Bool
 | b,[]=>b
 | _,p::r=>lastT (decide (p.1=[])) r
theorem may_append:∀ (b:Bool) (ps:List Pt) (p:Pt),may b (ps++[p])=(may b ps && okP (lastT b ps) p)
 | b,[],p=>by simp[may,lastT]
 | b,q::r,p=>by rw[List.cons_append,may,may,may_append _ r p,lastT,Bool.and_assoc]
theorem lastT_append:∀ (b:Bool) (ps:List Pt) (p:Pt),lastT b (ps++[p])=decide (p.1=[])
 | b,[],p=>by simp[lastT]
 | b,q::r,p=>by rw[List.cons_append,lastT,lastT_append _ r p]
theorem flush_may {ps:List Pt} {t:Bs} (h:may false ps=true) (hl:lastT false ps=false):may false (flush ps t)=true:=by
 unfold flush;split
 ·exact h
 ·rename_i ht;rw[may_append,h,hl];simp[okP,ht]
theorem isName_of {nm t:Bs} (h:nameLen (nm++125::t)=nm.length) (h0:nm≠[]):isName nm=true:=by
 unfold isName;rw[nameLen_self nm 125 t h h0];simp[h0]
theorem goN_may (r:Bs) (pos:Nat) (ps:List Pt) (t:Bs):may false ps=true→lastT false ps=false→∀ out,(goN r pos ps t).1=some out→may false out=true:=by
 refine goN_ind (P:=fun r pos ps t=>may false ps=true→lastT false ps=false→∀ out,(goN r pos ps t).1=some out→may false out=true) ?_ ?_ ?_ ?_ (r.length+1) r pos ps t (Nat.lt_succ_self _)
 ·intro r k pos ps t h _ _ out ho
  rw[goN_bad h] at ho;cases ho
 ·intro r pos ps t h hm hl out ho
  rw[goN_stop h] at ho;injection ho with ho;subst ho
  exact flush_may hm hl
 ·intro r nm k pos ps t h h0 h1 ih hm hl out ho
  rw[goN_var h] at ho;obtain⟨x,rfl,hn,hne,_⟩:=svar_form h;refine ih ?_ ?_ out ho
  ·rw[may_append,flush_may hm hl];simp[okP,hne,isName_of hn hne]
  ·rw[lastT_append];simp[hne]
 ·intro r c k pos ps t h h0 h1 ih hm hl out ho
  rw[goN_byte h] at ho;exact ih hm hl out ho
theorem parse_may (l:Bs) (out:List Pt) (h:(parse l).1=some out):may false out=true:=by
 cases l with
 | nil=>simp[parse] at h
 | cons c r=>
   by_cases hc:c=34
   ·subst hc
    rw[parse_quote] at h;exact goN_may r 1 [] [] rfl rfl out h
   ·rw[parse_no c r hc] at h;cases h
section
def Bw (w:World):Type:={x:World // Below w.heap.size w x}
theorem bw_some (w:World):Nonempty (Bw w):=⟨⟨w,Below.refl _ _⟩⟩
def Bw.at {w:World} (n:Bw w):World:=n.1
section
variable {P:Program} {w:World}
theorem wp_region_below {id:Nat} {Q:Exit→Act→World→Prop} {a:Act} {l:List Oper} (hm:P.follows .mixedOrders=true) (hB:Region.lexB .any l.toArray=true)
  (h:wpQuiet P l.toArray (fun w'=>∃ n:Bw w,w'=n.at) (fun a'=>∀ w',(∃ n:Bw w,w'=n.at)→Q .normal a' w') l a):(Code.region id l.toArray true).wp P Q a w:=
 wp_region_quiet (C:=fun w'=>∃ n:Bw w,w'=n.at) hm hB ⟨⟨w.drew,(Below.refl _ _).drew⟩,rfl⟩ (by simpa using h)
theorem bw_calls {f:FuncId} {args:Array Value} {v:Value} {n:Bw w} (h:Calls P f args n.at fun e w''=>e= .returned v∧Below n.at.heap.size n.at w''):
  Calls P f args n.at fun e w''=>e= .returned v∧∃ m:Bw w,w''=m.at:=
 h.mono fun _ w'' ⟨he,hb⟩=>⟨he,⟨w'',n.2.trans (hb.mono n.2.size)⟩,rfl⟩
end
theorem bw_cell {w:World} {a:Addr} {v:Value} (h:w.cell? a=some v) (n:Bw w):n.at.cell? a=some v:=(n.2.cell (World.block_lt_of_cell? w _ h)).trans h
end
theorem ret_int {k:IntKind} {a b:Int} (h:a=b):Ending.returned (.int k a)= .returned (.int k b):=by rw[h]
theorem ret_bool {a b:Bool} (h:a=b):Ending.returned (.bool a)= .returned (.bool b):=by rw[h]
theorem isdig_any (c:UInt8) (w:World):Calls Tryz.prog 160 #[.int .u8 c.toNat] w fun e w'=>e= .returned (.bool (isDig c))∧w=w':=by
 obtain⟨n,hn⟩:∃ n:Int,n=c.toNat:=⟨_,rfl⟩;have e:isDig c=decide (48≤n∧n≤57):=by rw[hn];rfl
 rw[e,←hn];clear e hn;by_cases h1:48≤n <;> by_cases h2:n≤57
 all_goals
  go_enter Tryz.func160,Tryz.ntmps160;go_wp2;go_ret;exact⟨ret_bool (by simp[h1,h2]),rfl⟩
theorem islow_any (c:UInt8) (w:World):Calls Tryz.prog 161 #[.int .u8 c.toNat] w fun e w'=>e= .returned (.bool (isLow c))∧w=w':=by
 obtain⟨n,hn⟩:∃ n:Int,n=c.toNat:=⟨_,rfl⟩;have e:isLow c=decide (97≤n∧n≤122):=by rw[hn];rfl
 rw[e,←hn];clear e hn;by_cases h1:97≤n <;> by_cases h2:n≤122
 all_goals
  go_enter Tryz.func161,Tryz.ntmps161;go_wp2;go_ret;exact⟨ret_bool (by simp[h1,h2]),rfl⟩
theorem isin_any (c:UInt8) (w:World):Calls Tryz.prog 162 #[.int .u8 c.toNat] w fun e w'=>e= .returned (.bool (isIn c))∧w=w':=by
 have KD:=fun w=>isdig_any c w
 have KL:=fun w=>islow_any c w
 have e:isIn c=(isLow c || isDig c || decide ((c.toNat:Int)=95)):=rfl;rw[e];clear e;generalize isDig c=d at KD ⊢;generalize isLow c=l at KL ⊢;have HD:=Lib.hid KD;have HL:=Lib.hid KL;clear KD KL;obtain⟨n,hn⟩:∃ n:Int,n=c.toNat:=⟨_,rfl⟩;rw[←hn] at HD HL ⊢;clear hn;by_cases h:n=95
 ·subst h
  cases d <;> cases l
  all_goals
   go_enter Tryz.func162,Tryz.ntmps162;go_wp2_with (first | (go_at_call 161;((with_reducible refine(HL.out _).mono ?_));rintro e w' ⟨rfl,rfl⟩) | (go_at_call 160;((with_reducible refine(HD.out _).mono ?_));rintro e w' ⟨rfl,rfl⟩));go_ret;exact⟨rfl,rfl⟩
 ·have hb:(n==95)=false:=by simpa using h
  have hd:decide (n=95)=false:=by simpa using h
  cases d <;> cases l
  all_goals
   go_enter Tryz.func162,Tryz.ntmps162;go_wp2_with (first | (go_at_call 161;((with_reducible refine(HL.out _).mono ?_));rintro e w' ⟨rfl,rfl⟩) | (go_at_call 160;((with_reducible refine(HD.out _).mono ?_));rintro e w' ⟨rfl,rfl⟩));go_ret;exact⟨ret_bool (by simp[hd]),rfl⟩
theorem small_no (c:UInt8) (w:World):Calls Tryz.prog 92 #[.int .u8 c.toNat,.bool false] w fun e w'=>e= .returned (.bool (isLow c))∧w=w':=by
 obtain⟨n,hn⟩:∃ n:Int,n=c.toNat:=⟨_,rfl⟩;have e:isLow c=decide (97≤n∧n≤122):=by rw[hn];rfl
 rw[e,←hn];clear e hn;by_cases h1:97≤n <;> by_cases h2:n≤122
 all_goals
  go_enter Tryz.func92,Tryz.ntmps92;go_wp2;go_ret;exact⟨ret_bool (by simp[h1,h2]),rfl⟩
theorem small_yes (c:UInt8) (w:World):Calls Tryz.prog 92 #[.int .u8 c.toNat,.bool true] w fun e w'=>e= .returned (.bool (isIn c))∧w=w':=by
 obtain⟨n,hn⟩:∃ n:Int,n=c.toNat:=⟨_,rfl⟩;have e:isIn c=(decide (97≤n∧n≤122) || decide (48≤n∧n≤57) || decide (n=95)):=by rw[hn];rfl
 rw[e,←hn];clear e hn;obtain⟨v,hv⟩:∃ v,v=(decide (97≤n∧n≤122) || decide (48≤n∧n≤57) || decide (n=95)):=⟨_,rfl⟩;rw[←hv];have HV:=Lib.hid hv;clear hv;by_cases h0:n=95
 ·subst h0
  go_enter Tryz.func92,Tryz.ntmps92;go_wp2;go_ret;exact⟨ret_bool (by rw[HV.out];rfl),rfl⟩
 ·have hb:(n==95)=false:=by simpa using h0
  by_cases h1:97≤n
  ·have h3:48≤n:=by omega
   have h4:¬ n≤57:=by omega
   by_cases h2:n≤122
   all_goals
    go_enter Tryz.func92,Tryz.ntmps92;go_wp2;go_ret;exact⟨ret_bool (by rw[HV.out];simp;omega),rfl⟩
  ·by_cases h3:48≤n <;> by_cases h4:n≤57
   all_goals
    go_enter Tryz.func92,Tryz.ntmps92;go_wp2;go_ret;exact⟨ret_bool (by rw[HV.out];simp;omega),rfl⟩
theorem digit_any (c:UInt8) (w:World):Calls Tryz.prog 120 #[.int .u8 c.toNat] w fun e w'=>e= .returned (.int .i64 (hexD c))∧w=w':=by
 have hlt:(c.toNat:Int)≤255:=by have:=UInt8.toNat_lt c;omega
 have hge:0≤(c.toNat:Int):=by omega
 obtain⟨n,hn⟩:∃ n:Int,n=c.toNat:=⟨_,rfl⟩;have e:hexD c=if 48≤n∧n≤57 then n - 48 else if 97≤n∧n≤102 then n - 87 else -1:=by rw[hn];rfl
 rw[e,←hn];rw[←hn] at hlt hge;clear e hn;obtain⟨v,hv⟩:∃ v:Int,v=if 48≤n∧n≤57 then n - 48 else if 97≤n∧n≤102 then n - 87 else -1:=⟨_,rfl⟩
 rw[←hv];have HV:=Lib.hid hv;clear hv;by_cases h1:48≤n
 ·by_cases h2:n≤57
  ·go_enter Tryz.func120,Tryz.ntmps120
   go_wp2;go_ret;exact⟨ret_int (by rw[HV.out,if_pos ⟨by omega,by omega⟩]),rfl⟩
  ·by_cases h3:97≤n
   ·by_cases h4:n≤102
    ·go_enter Tryz.func120,Tryz.ntmps120
     go_wp2;go_ret;exact⟨ret_int (by rw[HV.out,if_neg (by omega),if_pos ⟨by omega,by omega⟩];omega),rfl⟩
    ·go_enter Tryz.func120,Tryz.ntmps120
     go_wp2;go_ret;exact⟨ret_int (by rw[HV.out,if_neg (by omega),if_neg (by omega)]),rfl⟩
   ·go_enter Tryz.func120,Tryz.ntmps120
    go_wp2;go_ret;exact⟨ret_int (by rw[HV.out,if_neg (by omega),if_neg (by omega)]),rfl⟩
 ·have h3:¬ 97≤n:=by omega
  go_enter Tryz.func120,Tryz.ntmps120;go_wp2;go_ret;exact⟨ret_int (by rw[HV.out,if_neg (by omega),if_neg (by omega)]),rfl⟩
theorem drop_at (s:ByteArray) (k:Nat) (hk:k<s.size):s.data.toList.drop k=s[k]::s.data.toList.drop (k+1):=by
 have e:s.data.toList.length=s.size:=Array.length_toList;rw[List.drop_eq_getElem_cons (i:=k) (l:=s.data.toList) (by rw[e];exact hk)];simp;rfl
theorem drop_end (s:ByteArray) (k:Nat) (hk:¬ k<s.size):s.data.toList.drop k=[]:=by
 have e:s.data.toList.length=s.size:=Array.length_toList;rw[List.drop_eq_nil_iff,e];omega
theorem at_lt (s:ByteArray) (i:Nat) (hi:i<s.size) (w:World):
  Calls Tryz.prog 89 #[.string s,.int .i64 i] w fun e w'=>e= .returned (.int .u8 s[i].toNat)∧w=w':=by
 go_enter Tryz.func89,Tryz.ntmps89;go_wp2;go_ret;exact⟨rfl,rfl⟩
theorem at_ge (s:ByteArray) (i:Nat) (hi:¬ i<s.size) (w:World):
  Calls Tryz.prog 89 #[.string s,.int .i64 i] w fun e w'=>e= .returned (.int .u8 0)∧w=w':=by
 go_enter Tryz.func89,Tryz.ntmps89;go_wp2;go_ret;exact⟨rfl,rfl⟩
def lookH (r:Bs):Int:=match r with
 | []=> -1
 | c::_=>hexD c
theorem lookH_bd (r:Bs): -1≤lookH r∧lookH r≤15:=by
 cases r with
 | nil=>exact⟨by decide,by decide⟩
 | cons c r=>exact hexD_bd c
theorem stepHex_eq (r:Bs):stepHex r=if lookH r<0 then .bad 2 else if lookH r.tail<0 then .bad 3 else .byte (UInt8.ofNat (lookH r * 16+lookH r.tail).toNat) 4:=by
 cases r with
 | nil=>rfl
 | cons c r=>
   cases r with
   | nil=>unfold stepHex;simp[lookH]
   | cons d r=>rfl
theorem lookH_lt (s:ByteArray) (i:Nat) (h:¬ lookH (s.data.toList.drop i)<0):i<s.size:=by
 by_cases hlt:i<s.size
 ·exact hlt
 ·rw[drop_end s i hlt] at h;exact absurd (show lookH []<0 by decide) h
theorem byte_eq {a:UInt8} {n:Nat} (h:a=UInt8.ofNat n) (hn:n<256):((a.toNat:Int)==n)=true:=by
 subst h;simp;omega
theorem byte_ne {a:UInt8} {n:Nat} (h:a≠UInt8.ofNat n) (hn:n<256):((a.toNat:Int)==n)=false:=by
 simp only[beq_eq_false_iff_ne,ne_eq];intro e;apply h;rw[←UInt8.toNat_inj,UInt8.toNat_ofNat'];omega
theorem stepEsc_no {c:UInt8} {t:Bs} (hc:c≠120) (h:escD c=none):stepEsc (c::t)= .bad 1:=by
 unfold stepEsc;simp[hc,h]
theorem toList_data (s:ByteArray):s.toList=s.data.toList:=Lib.toList_data s
theorem len_data (s:ByteArray):s.data.toList.length=s.size:=Array.length_toList
theorem drop0 (s:ByteArray):s.data.toList.drop 0=s.data.toList:=rfl
theorem isEmpty_f (s:ByteArray) (h:0<s.size):s.toList.isEmpty=false:=by
 rw[toList_data];simp only[List.isEmpty_eq_false_iff,ne_eq];intro e;have:=congrArg List.length e;rw[len_data,List.length_nil] at this;omega
theorem isEmpty_t (s:ByteArray) (h:¬ 0<s.size):s.data.toList=[]:=by
 apply List.eq_nil_of_length_eq_zero;rw[len_data];omega
theorem namebytes_any (s:ByteArray) (hs:s.size≤4611686018427387904) (w:World):
  Calls Tryz.prog 152 #[.string s] w fun e w'=>e= .returned (.int .i64 (nameLen s.data.toList))∧w=w':=by
 by_cases h0:0<s.size
 ·have he:=isEmpty_f s h0
  have hd:=drop_at s 0 h0;rw[drop0] at hd;obtain⟨N,hN⟩:∃ N,N=nameLen s.data.toList:=⟨_,rfl⟩;rw[←hN];rw[hd,nameLen_cons] at hN;have KD:=Lib.hid fun w=>isdig_any s[0] w
  have KL:=Lib.hid fun w=>islow_any s[0] w
  by_cases h1:isDig s[0]=true
  ·rw[if_pos h1] at hN
   rw[h1] at KD;subst hN;clear hd h1 KL;go_enter Tryz.func152,Tryz.ntmps152;go_wp2_with (go_at_call 160;((with_reducible refine(KD.out _).mono ?_));rintro e w' ⟨rfl,rfl⟩);go_ret;exact⟨rfl,rfl⟩
  ·rw[if_neg h1] at hN
   rw[Bool.eq_false_iff.2 h1] at KD;by_cases h2:isLow s[0]=true
   ·rw[if_pos h2] at hN
    rw[h2] at KL;have HN:=Lib.hid hN;clear hd h1 h2 hN;go_enter Tryz.func152,Tryz.ntmps152;go_wp2_with (first | (go_at_call 160;((with_reducible refine(KD.out _).mono ?_));rintro e w' ⟨rfl,rfl⟩) | (go_at_call 161;((with_reducible refine(KL.out _).mono ?_));rintro e w' ⟨rfl,rfl⟩))
    go_loop [3] (fun n=>∃ k:Nat,1≤k∧k≤8∧k≤s.size∧n= .int .i64 k∧N=tk (8 - k) (s.data.toList.drop k)+k) (fun n=>8 - (intOf n).toNat)
    case atStart=>exact⟨1,by omega,by omega,by omega,rfl,HN.out⟩
    case round=>
     obtain⟨k,k1,k8,hk,rfl,hn⟩:=hrel;have HK:=Lib.hid hn;clear hn;by_cases a:k<s.size
     ·by_cases b:k<8
      ·have KI:=Lib.hid fun w=>isin_any s[k] w
       have hd:=drop_at s k a;by_cases c:isIn s[k]=true
       ·rw[c] at KI
        have HX:Hid (N=tk (8 - (k+1)) (s.data.toList.drop (k+1))+(k+1)):=by
         apply Lib.hid;rw[HK.out,hd,show 8 - k=(8 - (k+1))+1 by omega,tk_cons,if_pos c];omega
        clear hd c;go_wp2_with (go_at_call 162;((with_reducible refine(KI.out _).mono ?_));rintro e w' ⟨rfl,rfl⟩)
        go_round
        case rel=>exact⟨k+1,by omega,by omega,by omega,by go_num,HX.out⟩
        case measure=>simp[intOf];omega
       ·rw[Bool.eq_false_iff.2 c] at KI
        have HX:Hid ((k:Int)=N):=by
         apply Lib.hid;rw[HK.out,hd,show 8 - k=(8 - (k+1))+1 by omega,tk_cons,if_neg c];omega
        clear hd c;go_wp2_with (go_at_call 162;((with_reducible refine(KI.out _).mono ?_));rintro e w' ⟨rfl,rfl⟩);go_ret;exact⟨ret_int HX.out,rfl⟩
      ·have HX:Hid ((k:Int)=N):=by
        apply Lib.hid;rw[HK.out,show 8 - k=0 by omega];simp[tk]
       go_wp2;go_ret;exact⟨ret_int HX.out,rfl⟩
     ·have HX:Hid ((k:Int)=N):=by
       apply Lib.hid;rw[HK.out,drop_end s k a];cases 8 - k <;> simp[tk]
      go_wp2;go_ret;exact⟨ret_int HX.out,rfl⟩
   ·rw[if_neg h2] at hN
    rw[Bool.eq_false_iff.2 h2] at KL;subst hN;clear hd h1 h2;go_enter Tryz.func152,Tryz.ntmps152;go_wp2_with (first | (go_at_call 160;((with_reducible refine(KD.out _).mono ?_));rintro e w' ⟨rfl,rfl⟩) | (go_at_call 161;((with_reducible refine(KL.out _).mono ?_));rintro e w' ⟨rfl,rfl⟩));go_ret;exact⟨rfl,rfl⟩
 ·have e:=isEmpty_t s h0
  have he:s.toList.isEmpty=true:=by rw[toList_data,e];rfl
  have he2:s.toList=[]:=by rw[toList_data,e]
  rw[e];clear e;go_enter Tryz.func152,Tryz.ntmps152;go_wp2;go_ret;exact⟨rfl,rfl⟩
theorem name_any (s:ByteArray) (hs:s.size≤4611686018427387904) (w:World):
  Calls Tryz.prog 132 #[.string s] w fun e w'=>e= .returned (.bool (isName s.data.toList))∧w=w':=by
 by_cases h0:0<s.size
 ·have he:=isEmpty_f s h0
  have he2:¬ s.toList=[]:=by intro e;rw[e] at he;simp at he
  have hl:=len_data s
  have e:isName s.data.toList=decide (nameLen s.data.toList=s.size):=by
   unfold isName;rw[hl,←toList_data,he];rfl
  rw[e];have hb:=(nameLen_le s.data.toList).1;rw[hl] at hb;have K:=Lib.hid fun w=>namebytes_any s hs w
  obtain⟨n,hn⟩:∃ n,n=nameLen s.data.toList:=⟨_,rfl⟩;rw[←hn] at K hb ⊢;clear hn e hl;by_cases h:n=s.size
  ·subst h
   obtain⟨v,hv⟩:∃ v,v=decide (s.size=s.size):=⟨_,rfl⟩;rw[←hv];have HV:Hid (v=true):=by apply Lib.hid;rw[hv];simp
   clear hv;go_enter Tryz.func132,Tryz.ntmps132;go_wp2_with (go_at_call 152;((with_reducible refine(K.out _).mono ?_));rintro e w' ⟨rfl,rfl⟩);go_ret;exact⟨ret_bool (by rw[HV.out]),rfl⟩
  ·have h1:((n:Int)==(s.size:Int))=false:=by simp;omega
   have h2:decide (n=s.size)=false:=by simpa using h
   have h3:(n==s.size)=false:=by simpa using h
   rw[h2];clear h2;go_enter Tryz.func132,Tryz.ntmps132;go_wp2_with (go_at_call 152;((with_reducible refine(K.out _).mono ?_));rintro e w' ⟨rfl,rfl⟩);go_ret;exact⟨ret_bool (by simp),rfl⟩
 ·have e:=isEmpty_t s h0
  have he:s.toList.isEmpty=true:=by rw[toList_data,e];rfl
  have he2:s.toList=[]:=by rw[toList_data,e]
  rw[e];clear e;go_enter Tryz.func132,Tryz.ntmps132;go_wp2;go_ret;exact⟨rfl,rfl⟩
def okPre:Bs→Bool
 | []=>true
 | c::r=>isLow c && r.all isIn
def oneD:Bs→Bool
 | [c]=>isDig c
 | _=>false
theorem tk_full:∀ (k:Nat) (r:Bs),decide (tk k r=r.length)=(r.all isIn && decide (r.length≤k))
 | 0,[]=>by simp[tk]
 | 0,c::r=>by simp[tk]
 | k+1,[]=>by simp[tk]
 | k+1,c::r=>by
   have ih:=tk_full k r;rw[tk_cons];by_cases hc:isIn c=true
   ·rw[if_pos hc];simp only[List.all_cons,hc,Bool.true_and,List.length_cons,Nat.add_le_add_iff_right,Nat.add_right_cancel_iff];exact ih
   ·rw[if_neg hc];simp[hc]
theorem dig_low:∀ c:UInt8,isDig c=true→isLow c=false:=all256 _ (by decide+kernel)
theorem isName_eq (l:Bs):isName l=(oneD l || (okPre l && decide (1≤l.length) && decide (l.length≤8))):=by
 cases l with
 | nil=>rfl
 | cons c r=>
   have e:isName (c::r)=decide (nameLen (c::r)=r.length+1):=by unfold isName;simp
   rw[e,nameLen_cons];by_cases h1:isDig c=true
   ·rw[if_pos h1]
    cases r with
    | nil=>simp[oneD,h1]
    | cons d r=>simp[oneD,okPre,dig_low c h1]
   ·rw[if_neg h1]
    have ho:oneD (c::r)=false:=by cases r with
     | nil=>simp[oneD,h1]
     | cons d r=>rfl
    rw[ho];by_cases h2:isLow c=true
    ·have:=tk_full 7 r
     rw[if_pos h2];simp only[okPre,h2,Bool.true_and,Bool.false_or,Nat.add_right_cancel_iff,List.length_cons];rw[this];simp
    ·rw[if_neg h2];simp[okPre,h2]
theorem okPre_take (s:ByteArray) (k:Nat) (hk:k<s.size):okPre (s.data.toList.take (k+1))=(okPre (s.data.toList.take k) && (if k=0 then isLow s[k] else isIn s[k])):=by
 have e:s.data.toList.take (k+1)=s.data.toList.take k++[s[k]]:=by
  rw[List.take_succ_eq_append_getElem (by simpa using hk)];rfl
 rw[e]
 cases k with
 | zero=>simp[okPre]
 | succ k=>
   cases h:s.data.toList with
   | nil=>have:=len_data s;rw[h] at this;simp at this;omega
   | cons c r=>simp[okPre,List.all_append,Bool.and_assoc]
theorem okPre_mono (l:Bs) (k:Nat) (h:okPre l=true):okPre (l.take k)=true:=by
 cases l with
 | nil=>simpa using h
 | cons c r=>
   cases k with
   | zero=>rfl
   | succ k=>
     rw[List.take_succ_cons];simp only[okPre,Bool.and_eq_true,List.all_eq_true] at h ⊢;exact⟨h.1,fun x hx=>h.2 x (List.mem_of_mem_take hx)⟩
theorem rname_any (s:ByteArray) (hs:s.size≤4611686018427387904) (w:World):
  Calls Tryz.prog 60 #[.string s] w fun e w'=>e= .returned (.bool (isName s.data.toList))∧w=w':=by
 rw[isName_eq,len_data];have ho:oneD s.data.toList=true∨oneD s.data.toList=false:=by cases oneD s.data.toList <;> simp
 obtain⟨v,hv⟩:∃ v,v=(oneD s.data.toList || (okPre s.data.toList && decide (1≤s.size) && decide (s.size≤8))):=⟨_,rfl⟩;rw[←hv];have HV:=Lib.hid hv;clear hv;by_cases h1:s.size=1
 ·have hlt:0<s.size:=by omega
  have hd:=drop_at s 0 hlt;rw[drop0,drop_end s 1 (by omega)] at hd;have e1:oneD s.data.toList=isDig s[0]:=by rw[hd];rfl
  rw[e1] at ho;have b1:(s.size==1)=true:=by simp[h1]
  have b2:((s.size:Int)==1)=true:=by simp[h1]
  rcases ho with h | h
  ·have hx:48≤(s[0].toNat:Int)∧(s[0].toNat:Int)≤57:=by simpa[isDig] using h
   obtain⟨x1,x2⟩:=hx;have HR:Hid (v=true):=by apply Lib.hid;rw[HV.out,e1,h];rfl
   clear hd e1 h HV h1;go_enter Tryz.func60,Tryz.ntmps60;go_wp2;go_ret;exact⟨ret_bool (by rw[HR.out]),rfl⟩
  ·have hx:¬ (48≤(s[0].toNat:Int)∧(s[0].toNat:Int)≤57):=by simpa[isDig] using h
   have HR:Hid (v=isLow s[0]):=by apply Lib.hid;rw[HV.out,e1,h,hd];simp[okPre,h1]
   have KL:=Lib.hid fun w=>small_no s[0] w
   have H1:=Lib.hid h1;clear hd e1 h HV h1;have hx2:(s[0].toNat:Int)<48∨48≤(s[0].toNat:Int)∧57<(s[0].toNat:Int):=by omega
   clear hx;by_cases hl:isLow s[0]=true
   ·rw[hl] at KL
    have HR2:Hid (v=true):=by apply Lib.hid;rw[HR.out,hl]
    clear HR hl
    rcases hx2 with hx2 | ⟨hx2,hx3⟩
    all_goals
     go_enter Tryz.func60,Tryz.ntmps60;go_wp2
     go_loop [3] (fun n=>∃ k:Nat,(k=0∨k=1)∧n= .int .i64 k) (fun n=>1 - (intOf n).toNat)
     case atStart=>exact⟨0,.inl rfl,rfl⟩
     case round=>
      obtain⟨k,(rfl | rfl),rfl⟩:=hrel
      ·go_wp2_with (go_at_call 92;((with_reducible refine(KL.out _).mono ?_));rintro e w' ⟨rfl,rfl⟩)
       go_round
       case rel=>exact⟨1,.inr rfl,rfl⟩
       case measure=>simp[intOf]
      ·have l1:¬ 1<s.size:=by have:=H1.out;omega
       have l2:s.size≤8:=by have:=H1.out;omega
       go_wp2;go_ret;exact⟨ret_bool (by rw[HR2.out];simp;omega),rfl⟩
   ·rw[Bool.eq_false_iff.2 hl] at KL
    have HR2:Hid (v=false):=by apply Lib.hid;rw[HR.out,Bool.eq_false_iff.2 hl]
    clear HR hl
    rcases hx2 with hx2 | ⟨hx2,hx3⟩
    all_goals
     go_enter Tryz.func60,Tryz.ntmps60;go_wp2
     go_loop [3] (fun n=>n= .int .i64 0) (fun n=>1 - (intOf n).toNat)
     case atStart=>exact rfl
     case round=>
      obtain rfl:=hrel;go_wp2_with (go_at_call 92;((with_reducible refine(KL.out _).mono ?_));rintro e w' ⟨rfl,rfl⟩);go_ret;exact⟨ret_bool (by rw[HR2.out]),rfl⟩
 ·have b1:(s.size==1)=false:=by simpa using h1
  have b2:((s.size:Int)==1)=false:=by simp;omega
  have e1:oneD s.data.toList=false:=by
   cases h:s.data.toList with
   | nil=>rfl
   | cons c r=>
     cases r with
     | nil=>have:=len_data s;rw[h] at this;simp at this;omega
     | cons d r=>rfl
  have HR:Hid (v=(okPre s.data.toList && decide (1≤s.size) && decide (s.size≤8))):=by apply Lib.hid;rw[HV.out,e1];rfl
  clear e1 HV ho h1;go_enter Tryz.func60,Tryz.ntmps60;go_wp2
  go_loop [3] (fun n=>∃ k:Nat,k≤s.size∧n= .int .i64 k∧okPre (s.data.toList.take k)=true) (fun n=>s.size - (intOf n).toNat)
  case atStart=>exact⟨0,by omega,rfl,rfl⟩
  case round=>
   obtain⟨k,hk,rfl,hok⟩:=hrel;by_cases a:k<s.size
   ·have ht:=okPre_take s k a
    rw[hok] at ht;by_cases hz:k=0
    ·subst hz
     rw[if_pos rfl] at ht;have KL:=Lib.hid fun w=>small_no s[0] w
     by_cases hl:isLow s[0]=true
     ·rw[hl] at KL
      have HX:Hid (okPre (s.data.toList.take 1)=true):=by apply Lib.hid;rw[ht,hl];rfl
      clear ht hl hok;go_wp2_with (go_at_call 92;((with_reducible refine(KL.out _).mono ?_));rintro e w' ⟨rfl,rfl⟩)
      go_round
      case rel=>exact⟨1,by omega,rfl,HX.out⟩
      case measure=>simp[intOf];omega
     ·rw[Bool.eq_false_iff.2 hl] at KL ht
      have HX:Hid (v=false):=by
       apply Lib.hid;rw[HR.out];by_cases ho:okPre s.data.toList=true
       ·have:=okPre_mono _ 1 ho;rw[ht] at this;simp at this
       ·simp[ho]
      clear ht hl hok;go_wp2_with (go_at_call 92;((with_reducible refine(KL.out _).mono ?_));rintro e w' ⟨rfl,rfl⟩);go_ret;exact⟨ret_bool (by rw[HX.out]),rfl⟩
    ·rw[if_neg hz] at ht
     have hz':0<k:=by omega
     have KL:=Lib.hid fun w=>small_yes s[k] w
     by_cases hl:isIn s[k]=true
     ·rw[hl] at KL
      have HX:Hid (okPre (s.data.toList.take (k+1))=true):=by apply Lib.hid;rw[ht,hl];rfl
      clear ht hl hok hz;go_wp2_with (go_at_call 92;((with_reducible refine(KL.out _).mono ?_));rintro e w' ⟨rfl,rfl⟩)
      go_round
      case rel=>exact⟨k+1,by omega,by go_num,HX.out⟩
      case measure=>simp[intOf];omega
     ·rw[Bool.eq_false_iff.2 hl] at KL ht
      have HX:Hid (v=false):=by
       apply Lib.hid;rw[HR.out];by_cases ho:okPre s.data.toList=true
       ·have:=okPre_mono _ (k+1) ho;rw[ht] at this;simp at this
       ·simp[ho]
      clear ht hl hok hz;go_wp2_with (go_at_call 92;((with_reducible refine(KL.out _).mono ?_));rintro e w' ⟨rfl,rfl⟩);go_ret;exact⟨ret_bool (by rw[HX.out]),rfl⟩
   ·have HX:Hid (v=(decide (1≤s.size) && decide (s.size≤8))):=by
     apply Lib.hid;rw[HR.out];rw[List.take_of_length_le (by rw[len_data];omega)] at hok;rw[hok];rfl
    clear hok;by_cases c1:1≤s.size
    ·by_cases c2:s.size≤8
     ·have HY:Hid (v=true):=by apply Lib.hid;rw[HX.out];simp[c1,c2]
      go_wp2;go_ret;exact⟨ret_bool (by rw[HY.out];simp;omega),rfl⟩
     ·have HY:Hid (v=false):=by apply Lib.hid;rw[HX.out];simp[c2]
      go_wp2;go_ret;exact⟨ret_bool (by rw[HY.out];simp;omega),rfl⟩
    ·have HY:Hid (v=false):=by apply Lib.hid;rw[HX.out];simp[c1]
     go_wp2;go_ret;exact⟨ret_bool (by rw[HY.out]),rfl⟩
theorem below_drewN {B:Nat} {a w:World} (h:Below B a w) (n:Nat):Below B a (w.drewN n):=⟨h.os,h.tape,h.output,h.size,h.block⟩
def resE (i:Nat):Step→Value
 | .bad k=> .tuple #[.int .u8 0,.int .i64 (-1),.int .i64 ((i+k:Nat):Int)]
 | .byte b k=> .tuple #[.int .u8 b.toNat,.int .i64 ((k:Int) - 1),.int .i64 0]
 | _=> .tuple #[]
theorem at_is (s:ByteArray) (p:Nat) (hp:p<s.size) (n:Int) (hn:n=s[p].toNat) (w:World):
  Calls Tryz.prog 89 #[.string s,.int .i64 p] w fun e w'=>e= .returned (.int .u8 n)∧w=w':=by
 rw[hn];exact at_lt s p hp w
theorem digit_is (c:UInt8) (v:Int) (hv:hexD c=v) (w:World):Calls Tryz.prog 120 #[.int .u8 c.toNat] w fun e w'=>e= .returned (.int .i64 v)∧w=w':=by
 rw[←hv];exact digit_any c w
theorem quiet_left {P:Program} {f:FuncId} {args:Array Value} {w:World} {n:Nat} {v:Value}
  (h:Calls P f args (w.drewN n) fun e w'=>e= .returned v∧w.drewN n=w'):Calls P f args (w.drewN n) fun e w''=>e= .returned v∧∃ m,w''=w.drewN m:=
 h.mono fun _ _ ⟨he,hm⟩=>⟨he,n,hm.symm⟩
theorem escape_letter (s:ByteArray) (i p:Nat) (hi:p<s.size) (b:UInt8) (hb:escD s[p]=some b) (h120:s[p]≠120) (w:World):
  Calls Tryz.prog 91 #[.string s,.int .i64 p] w fun e w'=>e= .returned (resE i (stepEsc (s.data.toList.drop p)))∧Below w.heap.size w w':=by
 rw[drop_at s p hi,esc_mk _ b _ h120 hb];have hc:∃ c,c=s[p]:=⟨_,rfl⟩;obtain⟨c,hc⟩:=hc;rw[←hc] at hb h120
 have key:∀ n:Int,n=(c.toNat:Int)→(n=110∧b=10)∨(n=114∧b=13)∨(n=116∧b=9)∨(n=34∧b=34)∨(n=92∧b=92)∨(n=36∧b=36):=by
  intro n hn;unfold escD at hb
  split at hb
  ·rename_i h;subst h;injection hb with hb;exact .inl ⟨hn,hb.symm⟩
  ·split at hb
   ·rename_i h;subst h;injection hb with hb;exact .inr (.inl ⟨hn,hb.symm⟩)
   ·split at hb
    ·rename_i h;subst h;injection hb with hb;exact .inr (.inr (.inl ⟨hn,hb.symm⟩))
    ·split at hb
     ·rename_i h;subst h;injection hb with hb;exact .inr (.inr (.inr (.inl ⟨hn,hb.symm⟩)))
     ·split at hb
      ·rename_i h;subst h;injection hb with hb;exact .inr (.inr (.inr (.inr (.inl ⟨hn,hb.symm⟩))))
      ·split at hb
       ·rename_i h;subst h;injection hb with hb;exact .inr (.inr (.inr (.inr (.inr ⟨hn,hb.symm⟩))))
       ·cases hb
 have K:=Lib.hid fun n hn w=>at_is s p hi n hn w
 obtain⟨n,hn⟩:∃ n:Int,n=(c.toNat:Int):=⟨_,rfl⟩;have K':=Lib.hid fun w=>K.out n (hn.trans (by rw[hc])) w
 have key':=key n hn;clear key hn hc hb h120 K
 rcases key' with ⟨rfl,rfl⟩ | ⟨rfl,rfl⟩ | ⟨rfl,rfl⟩ | ⟨rfl,rfl⟩ | ⟨rfl,rfl⟩ | ⟨rfl,rfl⟩
 all_goals
  go_enter Tryz.func91,Tryz.ntmps91;go_wp2_with (go_at_call 89;((with_reducible refine(K'.out _).mono ?_));rintro e w' ⟨rfl,rfl⟩)
  go_ret3
  exact⟨rfl,Below.refl _ _⟩
theorem escape_none (s:ByteArray) (i p:Nat) (hp:p=i+1) (hi:p<s.size) (hb:escD s[p]=none) (h120:s[p]≠120) (w:World):
  Calls Tryz.prog 91 #[.string s,.int .i64 p] w fun e w'=>e= .returned (resE i (stepEsc (s.data.toList.drop p)))∧Below w.heap.size w w':=by
 rw[drop_at s p hi,stepEsc_no h120 hb];have HR:Hid (resE i (.bad 1)= .tuple #[.int .u8 0,.int .i64 (-1),.int .i64 p]):=by apply Lib.hid;rw[hp];rfl
 rw[HR.out]
 have hne:s[p]≠110∧s[p]≠114∧s[p]≠116∧s[p]≠34∧s[p]≠92∧s[p]≠36:=by
  refine⟨?_,?_,?_,?_,?_,?_⟩ <;> (intro e;rw[e] at hb;revert hb;decide)
 obtain⟨e1,e2,e3,e4,e5,e6⟩:=hne;obtain⟨n,hn⟩:∃ n:Int,n=(s[p].toNat:Int):=⟨_,rfl⟩;have f1:(n==110)=false:=by rw[hn];exact byte_ne (n:=110) e1 (by omega)
 have f2:(n==114)=false:=by rw[hn];exact byte_ne (n:=114) e2 (by omega)
 have f3:(n==116)=false:=by rw[hn];exact byte_ne (n:=116) e3 (by omega)
 have f4:(n==34)=false:=by rw[hn];exact byte_ne (n:=34) e4 (by omega)
 have f5:(n==92)=false:=by rw[hn];exact byte_ne (n:=92) e5 (by omega)
 have f6:(n==36)=false:=by rw[hn];exact byte_ne (n:=36) e6 (by omega)
 have f7:(n==120)=false:=by rw[hn];exact byte_ne (n:=120) h120 (by omega)
 have f8:(n != 120)=true:=by simp[bne,f7]
 have K:=Lib.hid fun w=>at_is s p hi n hn w
 clear hn e1 e2 e3 e4 e5 e6 hb h120 hp;go_enter Tryz.func91,Tryz.ntmps91;go_wp2_with (go_at_call 89;((with_reducible refine(K.out _).mono ?_));rintro e w' ⟨rfl,rfl⟩)
 go_ret3
 exact⟨rfl,Below.refl _ _⟩
theorem escape_end (s:ByteArray) (i p:Nat) (hp:p=i+1) (hi:p=s.size) (w:World):
  Calls Tryz.prog 91 #[.string s,.int .i64 p] w fun e w'=>e= .returned (resE i (stepEsc (s.data.toList.drop p)))∧Below w.heap.size w w':=by
 rw[drop_end s p (by omega)];have HR:Hid (resE i (stepEsc [])= .tuple #[.int .u8 0,.int .i64 (-1),.int .i64 p]):=by apply Lib.hid;rw[hp];rfl
 rw[HR.out];subst hi;have K:=Lib.hid fun w=>at_ge s s.size (by omega) w
 clear hp;go_enter Tryz.func91,Tryz.ntmps91;go_wp2_with (go_at_call 89;((with_reducible refine(K.out _).mono ?_));rintro e w' ⟨rfl,rfl⟩)
 go_ret3
 exact⟨rfl,Below.refl _ _⟩
theorem stepEsc_x (r:Bs):stepEsc (120::r)=stepHex r:=rfl
theorem lookH_cons (s:ByteArray) (i:Nat) (h:i<s.size):lookH (s.data.toList.drop i)=hexD s[i]:=by rw[drop_at s i h];rfl
def Two (v:Value):Prop:=v= .int .i64 1∨v= .int .i64 2
def Three (v:Value):Prop:=v= .int .i64 1∨v= .int .i64 2∨v= .int .i64 3
theorem escape_hex1 (s:ByteArray) (p:Nat) (hi:p<s.size) (hs:s.size≤4611686018427387904) (h120:s[p]=120) (h:lookH (s.data.toList.drop (p+1))<0) (w:World):
  Calls Tryz.prog 91 #[.string s,.int .i64 p] w fun e w'=>e= .returned (.tuple #[.int .u8 0,.int .i64 (-1),.int .i64 ((p:Int)+1)])∧w=w':=by
 have K:=Lib.hid fun w=>at_is s p hi 120 (by rw[h120];rfl) w
 clear h120;by_cases h1:p+1<s.size
 ·rw[lookH_cons s (p+1) h1] at h
  obtain⟨v,hv⟩:∃ v,hexD s[p+1]=v:=⟨_,rfl⟩;have K1:=Lib.hid fun w=>digit_is s[p+1] v hv w
  rw[hv] at h;clear hv;go_enter Tryz.func91,Tryz.ntmps91;go_wp2_with (go_at_call 89;((with_reducible refine(K.out _).mono ?_));rintro e w' ⟨rfl,rfl⟩)
  go_loop [8] (fun k=>k= .int .i64 1) (fun _=>0)
  case atStart=>exact rfl
  case round=>
   obtain rfl:=hrel;go_wp2_with (go_at_call 120;((with_reducible refine(K1.out _).mono ?_));rintro e w' ⟨rfl,rfl⟩)
   go_ret3
   exact⟨rfl,rfl⟩
 ·clear h
  go_enter Tryz.func91,Tryz.ntmps91;go_wp2_with (go_at_call 89;((with_reducible refine(K.out _).mono ?_));rintro e w' ⟨rfl,rfl⟩)
  go_loop [8] (fun k=>k= .int .i64 1) (fun _=>0)
  case atStart=>exact rfl
  case round=>
   obtain rfl:=hrel;go_wp2
   go_ret3
   exact⟨rfl,rfl⟩
theorem escape_hex2 (s:ByteArray) (p:Nat) (hi:p+1<s.size) (hs:s.size≤4611686018427387904) (h120:s[p]=120) (h:¬ hexD s[p+1]<0) (h':lookH (s.data.toList.drop (p+2))<0) (w:World):
  Calls Tryz.prog 91 #[.string s,.int .i64 p] w fun e w'=>e= .returned (.tuple #[.int .u8 0,.int .i64 (-1),.int .i64 ((p:Int)+2)])∧w=w':=by
 have K:=Lib.hid fun w=>at_is s p (by omega) 120 (by rw[h120];rfl) w
 clear h120;have hdz:decide (s.size≤p)=false:=by simp;omega
 obtain⟨v,hv⟩:∃ v,hexD s[p+1]=v:=⟨_,rfl⟩;have K1:=Lib.hid fun w=>digit_is s[p+1] v hv w
 rw[hv] at h;clear hv;by_cases h1:p+2<s.size
 ·rw[lookH_cons s (p+2) h1] at h'
  obtain⟨u,hu⟩:∃ u,hexD s[p+2]=u:=⟨_,rfl⟩;have K2:=Lib.hid fun w=>digit_is s[p+2] u hu w
  rw[hu] at h';clear hu;go_enter Tryz.func91,Tryz.ntmps91;go_wp2_with (go_at_call 89;((with_reducible refine(K.out _).mono ?_));rintro e w' ⟨rfl,rfl⟩)
  go_loop [8] (fun k=>Two k) (fun k=>2 - (intOf k).toNat)
  case atStart=>exact .inl rfl
  case round=>
   rcases hrel with rfl | rfl
   ·go_wp2_with (go_at_call 120;((with_reducible refine(K1.out _).mono ?_));rintro e w' ⟨rfl,rfl⟩)
    go_round
    case rel=>exact .inr rfl
    case measure=>simp[intOf]
   ·go_wp2_with (go_at_call 120;((with_reducible refine(K2.out _).mono ?_));rintro e w' ⟨rfl,rfl⟩)
    go_ret3
    exact⟨rfl,rfl⟩
 ·clear h'
  go_enter Tryz.func91,Tryz.ntmps91;go_wp2_with (go_at_call 89;((with_reducible refine(K.out _).mono ?_));rintro e w' ⟨rfl,rfl⟩)
  go_loop [8] (fun k=>Two k) (fun k=>2 - (intOf k).toNat)
  case atStart=>exact .inl rfl
  case round=>
   rcases hrel with rfl | rfl
   ·go_wp2_with (go_at_call 120;((with_reducible refine(K1.out _).mono ?_));rintro e w' ⟨rfl,rfl⟩)
    go_round
    case rel=>exact .inr rfl
    case measure=>simp[intOf]
   ·go_wp2
    go_ret3
    exact⟨rfl,rfl⟩
theorem escape_hex3 (s:ByteArray) (p:Nat) (hi:p+2<s.size) (hs:s.size≤4611686018427387904) (h120:s[p]=120) (h:¬ hexD s[p+1]<0) (h':¬ hexD s[p+2]<0) (w:World):
  Calls Tryz.prog 91 #[.string s,.int .i64 p] w fun e w'=>e= .returned (.tuple #[.int .u8 (hexD s[p+1] * 16+hexD s[p+2]),.int .i64 3,.int .i64 0])∧∃ n,w'=w.drewN n:=by
 have K:=Lib.hid fun w=>at_is s p (by omega) 120 (by rw[h120];rfl) w
 clear h120;have hdz:decide (s.size≤p)=false:=by simp;omega
 have hb1:=hexD_bd s[p+1];have hb2:=hexD_bd s[p+2];obtain⟨v,hv⟩:∃ v,hexD s[p+1]=v:=⟨_,rfl⟩;have K1:=Lib.hid fun w=>digit_is s[p+1] v hv w
 rw[hv] at h hb1 ⊢;obtain⟨u,hu⟩:∃ u,hexD s[p+2]=u:=⟨_,rfl⟩;have K2:=Lib.hid fun w=>digit_is s[p+2] u hu w
 rw[hu] at h' hb2 ⊢;obtain⟨_,b12⟩:=hb1;obtain⟨_,b22⟩:=hb2;clear hu hv;go_enter Tryz.func91,Tryz.ntmps91;go_wp2_with (go_at_call 89;((with_reducible refine(K.out _).mono ?_));rintro e w' ⟨rfl,rfl⟩)
 go_loop [8] (fun k=>Three k) (fun k=>3 - (intOf k).toNat)
 case atStart=>exact .inl rfl
 case round=>
  rcases hrel with rfl | rfl | rfl
  ·go_wp2_with (go_at_call 120;((with_reducible refine(K1.out _).mono ?_));rintro e w' ⟨rfl,rfl⟩)
   go_round
   case rel=>exact .inr (.inl rfl)
   case measure=>simp[intOf]
  ·go_wp2_with (go_at_call 120;((with_reducible refine(K2.out _).mono ?_));rintro e w' ⟨rfl,rfl⟩)
   go_round
   case rel=>exact .inr (.inr rfl)
   case measure=>simp[intOf]
  ·have q1:IntKind.i64.wrap ((p:Int)+1)=(p:Int)+1:=IntWalk.i64_in _ (by omega)
   have q2:IntKind.i64.wrap ((p:Int)+2)=(p:Int)+2:=IntWalk.i64_in _ (by omega);have q3:0≤(p:Int)+1:=by omega
   have q4:0≤(p:Int)+2:=by omega
   have q5:((p:Int)+1).toNat=p+1:=by omega
   have q6:((p:Int)+2).toNat=p+2:=by omega
   have q7:(p:Int)+1<s.size:=by omega
   have q8:(p:Int)+2<s.size:=by omega
   have q9:p+1<s.size:=by omega
   have q10:IntKind.i64.wrap (v * 16)=v * 16:=IntWalk.i64_in _ (by omega);have q11:IntKind.i64.wrap (v * 16+u)=v * 16+u:=IntWalk.i64_in _ (by omega);have q12:IntKind.u8.wrap (v * 16+u)=v * 16+u:=IntWalk.u8_in _ (by omega);go_wp2;go_quiet ((go_at_call 120;(first | (with_reducible exact quiet_left (K1.out _)) | (with_reducible exact quiet_left (K2.out _)))));go_wp2
   go_ret3
   exact⟨rfl,_,rfl⟩
theorem escape_any (s:ByteArray) (i p:Nat) (hp:p=i+1) (hi:p≤s.size) (hs:s.size≤4611686018427387904) (w:World):
  Calls Tryz.prog 91 #[.string s,.int .i64 p] w fun e w'=>e= .returned (resE i (stepEsc (s.data.toList.drop p)))∧Below w.heap.size w w':=by
 by_cases hlt:p<s.size
 ·by_cases hx:s[p]=120
  ·have hd:=drop_at s p hlt
   rw[hx] at hd;have e:=stepHex_eq (s.data.toList.drop (p+1));have ht:(s.data.toList.drop (p+1)).tail=s.data.toList.drop (p+2):=by simp
   rw[ht] at e;by_cases h1:lookH (s.data.toList.drop (p+1))<0
   ·rw[if_pos h1] at e
    refine(escape_hex1 s p hlt hs hx h1 w).mono fun e' w' ⟨he,hw⟩=>⟨?_,?_⟩
    ·rw[he,hd,stepEsc_x,e];simp only[resE];congr;omega
    ·rw[hw];exact Below.refl _ _
   ·rw[if_neg h1] at e
    have l1:=lookH_lt s (p+1) h1;have v1:hexD s[p+1]=lookH (s.data.toList.drop (p+1)):=(lookH_cons s (p+1) l1).symm;by_cases h2:lookH (s.data.toList.drop (p+2))<0
    ·rw[if_pos h2] at e
     refine(escape_hex2 s p l1 hs hx (by rw[v1];exact h1) h2 w).mono fun e' w' ⟨he,hw⟩=>⟨?_,?_⟩
     ·rw[he,hd,stepEsc_x,e];simp only[resE];congr;omega
     ·rw[hw];exact Below.refl _ _
    ·rw[if_neg h2] at e
     have l2:=lookH_lt s (p+2) h2;have v2:hexD s[p+2]=lookH (s.data.toList.drop (p+2)):=(lookH_cons s (p+2) l2).symm;refine(escape_hex3 s p l2 hs hx (by rw[v1];exact h1) (by rw[v2];exact h2) w).mono fun e' w' ⟨he,n,hw⟩=>⟨?_,?_⟩
     ·have b1:=lookH_bd (s.data.toList.drop (p+1))
      have b2:=lookH_bd (s.data.toList.drop (p+2));rw[he,hd,stepEsc_x,e,v1,v2];generalize lookH (s.data.toList.drop (p+1))=a at *;generalize lookH (s.data.toList.drop (p+2))=b at *
      have e:((UInt8.ofNat (a * 16+b).toNat).toNat:Int)=a * 16+b:=by
       rw[UInt8.toNat_ofNat'];omega
      simp only[resE,e];rfl
     ·rw[hw];exact below_drewN (Below.refl _ _) n
  ·cases hb:escD s[p] with
   | none=>exact escape_none s i p hp hlt hb hx w
   | some b=>exact escape_letter s i p hlt b hb hx w
 ·exact escape_end s i p hp (by omega) w
def resF (i:Nat):Step→Value
 | .bad k=> .tuple #[.string ⟨#[]⟩,.int .i64 (-1),.int .i64 ((i+k:Nat):Int)]
 | .var nm k=> .tuple #[.string ⟨nm.toArray⟩,.int .i64 ((k:Int) - 1),.int .i64 0]
 | _=> .tuple #[]
theorem ba_take (s:ByteArray) (a n:Nat):s.extract a (a+n)=⟨((s.data.toList.drop a).take n).toArray⟩:=by
 have h:=Lib.extract_data s a (a+n);rw[Nat.add_sub_cancel_left] at h;apply ByteArray.ext;apply Array.ext';exact h
theorem stepVar_eq (c:UInt8) (r:Bs):stepVar (c::r)=if c=123 then (if nameLen r=0 then .bad 2 else match r.drop (nameLen r) with
 | []=> .bad (2+nameLen r)
 | d::_=>if d=125 then .var (r.take (nameLen r)) (nameLen r+3) else .bad (2+nameLen r)) else .bad 1:=rfl
theorem variable_no (s:ByteArray) (p:Nat) (n:Int) (hn:(n != 123)=true)
  (K:∀ w,Calls Tryz.prog 89 #[.string s,.int .i64 p] w fun e w'=>e= .returned (.int .u8 n)∧w=w') (w:World):
  Calls Tryz.prog 90 #[.string s,.int .i64 p] w fun e w'=>e= .returned (.tuple #[.string ⟨#[]⟩,.int .i64 (-1),.int .i64 p])∧w=w':=by
 have K:=Lib.hid K;go_enter Tryz.func90,Tryz.ntmps90;go_wp2_with (go_at_call 89;((with_reducible refine(K.out _).mono ?_));rintro e w' ⟨rfl,rfl⟩)
 go_ret3
 exact⟨rfl,rfl⟩
theorem variable_first (s:ByteArray) (p:Nat) (hp:p<s.size) (hs:s.size≤4611686018427387904) (h123:s[p]=123) (h:nameLen (s.data.toList.drop (p+1))=0) (w:World):
  Calls Tryz.prog 90 #[.string s,.int .i64 p] w fun e w'=>e= .returned (.tuple #[.string ⟨#[]⟩,.int .i64 (-1),.int .i64 ((p:Int)+1)])∧w=w':=by
 have K:=Lib.hid fun w=>at_is s p hp 123 (by rw[h123];rfl) w
 clear h123;by_cases h1:p+1<s.size
 ·obtain⟨n,hn⟩:∃ n:Int,n=(s[p+1].toNat:Int):=⟨_,rfl⟩
  have K1:Hid (∀ w,Calls Tryz.prog 89 #[.string s,.int .i64 ((p:Int)+1)] w fun e w'=>e= .returned (.int .u8 n)∧w=w'):=Lib.hid fun w=>at_is s (p+1) h1 n hn w
  have K2:=Lib.hid fun w=>small_no s[p+1] w
  rw[drop_at s (p+1) h1,nameLen_cons] at h
  have hd:isDig s[p+1]=false:=by
   cases hd:isDig s[p+1] with
   | false=>rfl
   | true=>rw[hd] at h;simp at h
  have hl:isLow s[p+1]=false:=by
   cases hl:isLow s[p+1] with
   | false=>rfl
   | true=>rw[hd,hl] at h;simp at h
  rw[hl,←hn] at K2;have hx:¬ (48≤n∧n≤57):=by rw[hn];simpa[isDig] using hd
  have hx2:(n<48∧decide (n≤57)=true)∨(48≤n∧decide (n≤57)=false):=by simp;omega
  clear h hd hl hx hn
  rcases hx2 with ⟨hx2,hx3⟩ | ⟨hx2,hx3⟩
  all_goals
   go_enter Tryz.func90,Tryz.ntmps90;go_wp2_with (first | (go_at_call 89;(first | ((with_reducible refine(K.out _).mono ?_);rintro e w' ⟨rfl,rfl⟩) | ((with_reducible refine(K1.out _).mono ?_);rintro e w' ⟨rfl,rfl⟩))) | (go_at_call 92;((with_reducible refine(K2.out _).mono ?_));rintro e w' ⟨rfl,rfl⟩))
   go_ret3
   exact⟨rfl,rfl⟩
 ·have K1:Hid (∀ w,Calls Tryz.prog 89 #[.string s,.int .i64 ((p:Int)+1)] w fun e w'=>e= .returned (.int .u8 0)∧w=w'):=Lib.hid fun w=>at_ge s (p+1) h1 w
  clear h;go_enter Tryz.func90,Tryz.ntmps90;go_wp2_with (go_at_call 89;(first | ((with_reducible refine(K.out _).mono ?_);rintro e w' ⟨rfl,rfl⟩) | ((with_reducible refine(K1.out _).mono ?_);rintro e w' ⟨rfl,rfl⟩)))
  go_ret3
  exact⟨rfl,rfl⟩
def EndV (s:ByteArray) (p N:Nat) (x:Int) (w:World) (e:Ending) (w':World):Prop:=
 e= .returned (if x=125 then .tuple #[.string (s.extract (p+1) (p+1+N)),.int .i64 ((N:Int)+2),.int .i64 0] else .tuple #[.string ⟨#[]⟩,.int .i64 (-1),.int .i64 ((p:Int)+1+N)])∧w=w'
theorem ret_vno {a b c d:Int} (h:a=b) (g:c=d):Ending.returned (.tuple #[.string ⟨#[]⟩,.int .i64 a,.int .i64 c])= .returned (.tuple #[.string ⟨#[]⟩,.int .i64 b,.int .i64 d]):=by rw[h,g]
theorem ret_vyes {a b:ByteArray} {c d:Int} (h:a=b) (g:c=d):Ending.returned (.tuple #[.string a,.int .i64 c,.int .i64 0])= .returned (.tuple #[.string b,.int .i64 d,.int .i64 0]):=by rw[h,g]
theorem variable_digit (s:ByteArray) (p:Nat) (hp:p+1<s.size) (hs:s.size≤4611686018427387904) (h123:s[p]=123) (h:isDig s[p+1]=true) (x:Int)
  (KX:∀ w,Calls Tryz.prog 89 #[.string s,.int .i64 ((p:Int)+2)] w fun e w'=>e= .returned (.int .u8 x)∧w=w') (w:World):
  Calls Tryz.prog 90 #[.string s,.int .i64 p] w (EndV s p 1 x w):=by
 have K:=Lib.hid fun w=>at_is s p (by omega) 123 (by rw[h123];rfl) w
 have KX:=Lib.hid KX;clear h123;obtain⟨n,hn⟩:∃ n:Int,n=(s[p+1].toNat:Int):=⟨_,rfl⟩;have K1:Hid (∀ w,Calls Tryz.prog 89 #[.string s,.int .i64 ((p:Int)+1)] w fun e w'=>e= .returned (.int .u8 n)∧w=w'):=Lib.hid fun w=>at_is s (p+1) hp n hn w
 have K2:=Lib.hid fun w=>small_no s[p+1] w
 have hl:=dig_low _ h;rw[hl,←hn] at K2;have hx:48≤n∧n≤57:=by rw[hn];simpa[isDig] using h
 obtain⟨x1,x2⟩:=hx;clear hl h hn;by_cases hx:x=125
 ·subst hx
  go_enter Tryz.func90,Tryz.ntmps90;go_wp2_with (first | (go_at_call 89;(first | ((with_reducible refine(K.out _).mono ?_);rintro e w' ⟨rfl,rfl⟩) | ((with_reducible refine(K1.out _).mono ?_);rintro e w' ⟨rfl,rfl⟩) | ((with_reducible refine(KX.out _).mono ?_);rintro e w' ⟨rfl,rfl⟩))) | (go_at_call 92;((with_reducible refine(K2.out _).mono ?_));rintro e w' ⟨rfl,rfl⟩))
  go_ret3
  exact⟨by rw[if_pos rfl];exact ret_vyes rfl (by omega),rfl⟩
 ·have hx1:(x != 125)=true:=by simpa using hx
  have hx3:(x==125)=false:=by simpa using hx
  go_enter Tryz.func90,Tryz.ntmps90;go_wp2_with (first | (go_at_call 89;(first | ((with_reducible refine(K.out _).mono ?_);rintro e w' ⟨rfl,rfl⟩) | ((with_reducible refine(K1.out _).mono ?_);rintro e w' ⟨rfl,rfl⟩) | ((with_reducible refine(KX.out _).mono ?_);rintro e w' ⟨rfl,rfl⟩))) | (go_at_call 92;((with_reducible refine(K2.out _).mono ?_));rintro e w' ⟨rfl,rfl⟩))
  go_ret3
  exact⟨by rw[if_neg hx];exact ret_vno rfl (by omega),rfl⟩
theorem variable_low (s:ByteArray) (p N:Nat) (hp:p+1<s.size) (hs:s.size≤4611686018427387904) (h123:s[p]=123) (h:isLow s[p+1]=true) (hN:N=tk 7 (s.data.toList.drop (p+2))+1) (x:Int)
  (KX:∀ (a:Int),a=(p:Int)+1+N→∀ w,Calls Tryz.prog 89 #[.string s,.int .i64 a] w fun e w'=>e= .returned (.int .u8 x)∧w=w') (w:World):
  Calls Tryz.prog 90 #[.string s,.int .i64 p] w (EndV s p N x w):=by
 have K:=Lib.hid fun w=>at_is s p (by omega) 123 (by rw[h123];rfl) w
 have KX:=Lib.hid KX;clear h123;obtain⟨n,hn⟩:∃ n:Int,n=(s[p+1].toNat:Int):=⟨_,rfl⟩;have K1:Hid (∀ w,Calls Tryz.prog 89 #[.string s,.int .i64 ((p:Int)+1)] w fun e w'=>e= .returned (.int .u8 n)∧w=w'):=Lib.hid fun w=>at_is s (p+1) hp n hn w
 have K2:=Lib.hid fun w=>small_no s[p+1] w
 rw[h,←hn] at K2;have HN:=Lib.hid hN;clear h hn hN;have hdz:decide (s.size≤p+1)=false:=by simp;omega
 have hdy:decide ((s.size:Int)≤(p:Int)+1)=false:=by simp;omega
 go_enter Tryz.func90,Tryz.ntmps90;go_wp2_with (first | (go_at_call 89;(first | ((with_reducible refine(K.out _).mono ?_);rintro e w' ⟨rfl,rfl⟩) | ((with_reducible refine(K1.out _).mono ?_);rintro e w' ⟨rfl,rfl⟩))) | (go_at_call 92;((with_reducible refine(K2.out _).mono ?_));rintro e w' ⟨rfl,rfl⟩))
 go_loop [8] (fun v=>∃ k:Nat,p+2≤k∧k≤p+9∧k≤s.size∧v= .int .i64 k∧N=tk (p+9 - k) (s.data.toList.drop k)+(k - (p+1))) (fun v=>p+9 - (intOf v).toNat)
 case atStart=>exact⟨p+2,by omega,by omega,by omega,by go_num,by rw[HN.out,show p+9 - (p+2)=7 by omega,show p+2 - (p+1)=1 by omega]⟩
 case round=>
  obtain⟨k,k1,k9,hk,rfl,hn⟩:=hrel;have HK:=Lib.hid hn;clear hn;by_cases a:k<s.size
  ·by_cases b:k<p+9
   ·have KI:=Lib.hid fun w=>small_yes s[k] w
    have hd:=drop_at s k a;by_cases c:isIn s[k]=true
    ·rw[c] at KI
     have HX:Hid (N=tk (p+9 - (k+1)) (s.data.toList.drop (k+1))+(k+1 - (p+1))):=by
      apply Lib.hid;rw[HK.out,hd,show p+9 - k=(p+9 - (k+1))+1 by omega,tk_cons,if_pos c];omega
     clear hd c;go_wp2_with (go_at_call 92;((with_reducible refine(KI.out _).mono ?_));rintro e w' ⟨rfl,rfl⟩)
     go_round
     case rel=>exact⟨k+1,by omega,by omega,by omega,by go_num,HX.out⟩
     case measure=>simp[intOf];omega
    ·rw[Bool.eq_false_iff.2 c] at KI
     have HX:Hid (k=p+1+N):=by
      apply Lib.hid;have h2:=HK.out;rw[hd,show p+9 - k=(p+9 - (k+1))+1 by omega,tk_cons,if_neg c] at h2;omega
     have KE:=Lib.hid (KX.out k (by have:=HX.out;omega));clear hd c;by_cases hx:x=125
     ·subst hx
      go_wp2_with (first | (go_at_call 92;((with_reducible refine(KI.out _).mono ?_));rintro e w' ⟨rfl,rfl⟩) | (go_at_call 89;((with_reducible refine(KE.out _).mono ?_));rintro e w' ⟨rfl,rfl⟩))
      go_ret3
      exact⟨by rw[if_pos rfl,←HX.out];exact ret_vyes rfl (by have:=HX.out;omega),rfl⟩
     ·have hx1:(x != 125)=true:=by simpa using hx
      go_wp2_with (first | (go_at_call 92;((with_reducible refine(KI.out _).mono ?_));rintro e w' ⟨rfl,rfl⟩) | (go_at_call 89;((with_reducible refine(KE.out _).mono ?_));rintro e w' ⟨rfl,rfl⟩))
      go_ret3
      exact⟨by rw[if_neg hx];exact ret_vno rfl (by have:=HX.out;omega),rfl⟩
   ·have HX:Hid (k=p+1+N):=by
     apply Lib.hid;have h2:=HK.out;rw[show p+9 - k=0 by omega] at h2;simp[tk] at h2;omega
    have KE:=Lib.hid (KX.out k (by have:=HX.out;omega));by_cases hx:x=125
    ·subst hx
     go_wp2_with (go_at_call 89;((with_reducible refine(KE.out _).mono ?_));rintro e w' ⟨rfl,rfl⟩)
     go_ret3
     exact⟨by rw[if_pos rfl,←HX.out];exact ret_vyes rfl (by have:=HX.out;omega),rfl⟩
    ·have hx1:(x != 125)=true:=by simpa using hx
     go_wp2_with (go_at_call 89;((with_reducible refine(KE.out _).mono ?_));rintro e w' ⟨rfl,rfl⟩)
     go_ret3
     exact⟨by rw[if_neg hx];exact ret_vno rfl (by have:=HX.out;omega),rfl⟩
  ·have HX:Hid (k=p+1+N):=by
    apply Lib.hid;have h2:=HK.out;rw[drop_end s k a] at h2;have:tk (p+9 - k) []=0:=by cases p+9 - k <;> simp[tk]
    omega
   have KE:=Lib.hid (KX.out k (by have:=HX.out;omega));by_cases hx:x=125
   ·subst hx
    go_wp2_with (go_at_call 89;((with_reducible refine(KE.out _).mono ?_));rintro e w' ⟨rfl,rfl⟩)
    go_ret3
    exact⟨by rw[if_pos rfl,←HX.out];exact ret_vyes rfl (by have:=HX.out;omega),rfl⟩
   ·have hx1:(x != 125)=true:=by simpa using hx
    go_wp2_with (go_at_call 89;((with_reducible refine(KE.out _).mono ?_));rintro e w' ⟨rfl,rfl⟩)
    go_ret3
    exact⟨by rw[if_neg hx];exact ret_vno rfl (by have:=HX.out;omega),rfl⟩
theorem at_end (s:ByteArray) (k:Nat) (x:Int) (hx:x=match s.data.toList.drop k with | []=>0 | d::_=>(d.toNat:Int)) (a:Int) (ha:a=k) (w:World):
  Calls Tryz.prog 89 #[.string s,.int .i64 a] w fun e w'=>e= .returned (.int .u8 x)∧w=w':=by
 rw[ha];by_cases h:k<s.size
 ·rw[drop_at s k h] at hx
  exact at_is s k h x hx w
 ·rw[drop_end s k h] at hx
  rw[hx];exact at_ge s k h w
theorem variable_any (s:ByteArray) (i p:Nat) (hpi:p=i+1) (hs:s.size≤4611686018427387904) (w:World):
  Calls Tryz.prog 90 #[.string s,.int .i64 p] w fun e w'=>e= .returned (resF i (stepVar (s.data.toList.drop p)))∧w=w':=by
 by_cases hlt:p<s.size
 ·have hd:=drop_at s p hlt
  by_cases h123:s[p]=123
  ·rw[hd,stepVar_eq,if_pos h123]
   by_cases h0:nameLen (s.data.toList.drop (p+1))=0
   ·rw[if_pos h0]
    refine(variable_first s p hlt hs h123 h0 w).mono fun e w' ⟨he,hw⟩=>⟨?_,hw⟩
    rw[he];simp only[resF];congr;omega
   ·rw[if_neg h0]
    obtain⟨N,hN⟩:∃ N,N=nameLen (s.data.toList.drop (p+1)):=⟨_,rfl⟩;rw[←hN] at h0 ⊢
    have h1:p+1<s.size:=by
     by_cases h1:p+1<s.size
     ·exact h1
     ·rw[drop_end s (p+1) h1] at hN;exact absurd hN h0
    have e2:(s.data.toList.drop (p+1)).drop N=s.data.toList.drop (p+1+N):=by rw[List.drop_drop]
    rw[e2];obtain⟨x,hx⟩:∃ x:Int,x=match s.data.toList.drop (p+1+N) with | []=>0 | d::_=>(d.toNat:Int):=⟨_,rfl⟩
    have KX:=at_end s (p+1+N) x hx
    have main:Calls Tryz.prog 90 #[.string s,.int .i64 p] w (EndV s p N x w):=by
     have hd1:=drop_at s (p+1) h1;rw[hd1,nameLen_cons] at hN;by_cases a:isDig s[p+1]=true
     ·rw[if_pos a] at hN
      subst hN;exact variable_digit s p h1 hs h123 a x (fun w=>KX _ (by omega) w) w
     ·rw[if_neg a] at hN
      by_cases b:isLow s[p+1]=true
      ·rw[if_pos b] at hN
       exact variable_low s p N h1 hs h123 b hN x (fun a ha w=>KX a (by omega) w) w
      ·rw[if_neg b] at hN;exact absurd hN h0
    refine main.mono fun e w' ⟨he,hw⟩=>⟨?_,hw⟩
    rw[he]
    cases hr:s.data.toList.drop (p+1+N) with
    | nil=>
      rw[hr] at hx;rw[if_neg (by rw[hx];decide)];simp only[resF];congr;omega
    | cons d t=>
      rw[hr] at hx;by_cases hd125:d=125
      ·rw[if_pos (by rw[hx,hd125];rfl)]
       simp only[if_pos hd125,resF];rw[ba_take];exact ret_vyes rfl (by omega)
      ·rw[if_neg (by rw[hx];intro e;apply hd125;rw[←UInt8.toNat_inj];show d.toNat=125;simp only at e;omega)]
       simp only[if_neg hd125,resF];congr;omega
  ·have hn:((s[p].toNat:Int) != 123)=true:=by
    have:=byte_ne (n:=123) h123 (by omega);simp only[bne];simpa using this
   rw[hd,stepVar_eq,if_neg h123];refine(variable_no s p _ hn (at_lt s p hlt) w).mono fun e w' ⟨he,hw⟩=>⟨?_,hw⟩
   rw[he,hpi];rfl
 ·rw[drop_end s p hlt]
  refine(variable_no s p 0 (by decide) (at_ge s p hlt) w).mono fun e w' ⟨he,hw⟩=>⟨?_,hw⟩
  rw[he,hpi];rfl
def cellsP (ps:List Pt):List Value:=ps.flatMap fun p=>[.string ⟨p.1.toArray⟩,.string ⟨p.2.toArray⟩]
theorem cellsP_append (a b:List Pt):cellsP (a++b)=cellsP a++cellsP b:=by simp[cellsP]
abbrev byteCells (t:Bs):List Value:=Lib.byteCells t
theorem info33:(Tryz.prog.info? 88).map (fun i=>(i.zero,i.size,i.bytes))=some (some (.agg #[.string ⟨#[]⟩,.string ⟨#[]⟩]),2,32):=by kernel_rfl
structure Two2 (B:Nat) (w0 w:World) (vp vt:Value) (ps:List Pt) (t:Bs):Prop where
 parts:w.ownsRow B 88 2 vp ps.length (cellsP ps)
 text:w.ownsRow B 5 1 vt t.length (byteCells t)
 below:Below B w0 w
 size:B≤w.heap.size
theorem own_ne {w:World} {B e e' s s' n n':Nat} {v v':Value} {xs xs':List Value} (h:w.ownsRow B e s v n xs) (h':w.ownsRow B e' s' v' n' xs') (hne:e≠e'):v.ownBlock=none∨v.ownBlock≠v'.ownBlock:=by
 rcases h.2 with ⟨rfl,_⟩ | ⟨g,cap,cur,rfl,_,hh,_⟩
 ·exact .inl rfl
 ·right
  rcases h'.2 with ⟨rfl,_⟩ | ⟨g',cap',cur',rfl,_,hh',_⟩
  ·simp[Value.ownBlock]
  ·simp only[Value.ownBlock,ne_eq,Option.some.injEq]
   rintro rfl;rw[hh] at hh';injection hh' with hh'
   injection hh' with _ ht
   exact hne ht
theorem Two2.alloc {B:Nat} {w0 w:World} {vp vt:Value} {ps:List Pt} {t:Bs} (h:Two2 B w0 w vp vt ps t) (o:Obj):Two2 B w0 (w.alloc o) vp vt ps t:=
 ⟨h.parts.alloc o,h.text.alloc o,h.below.alloc h.size o,by simp;have:=h.size;omega⟩
theorem Two2.part {B:Nat} {w0 w w':World} {vp vt v':Value} {ps:List Pt} {t:Bs} {p:Pt} (h:Two2 B w0 w vp vt ps t)
  (ho:w'.ownsRow B 88 2 v' (ps.length+1) (cellsP ps++[.string ⟨p.1.toArray⟩,.string ⟨p.2.toArray⟩])) (hg:w.grownBy w' vp.ownBlock):Two2 B w0 w' v' vt (ps++[p]) t:=
 ⟨by rw[cellsP_append];simpa[cellsP] using ho,h.text.kept hg (own_ne h.text h.parts (by decide)),h.below.grown hg h.size (fun k hk=>(h.parts.lt k hk).1),Nat.le_trans h.size hg.size⟩
theorem new_cells (w:World) (T:TypeId) (cs:Array Value) (j:Nat) (u:Value) (h:cs.toList[j]?=some u):(w.alloc (.cells cs T)).cell? ((⟨w.heap.size,0,none⟩:Addr).add j)=some u:=by
 have hadd:(⟨w.heap.size,0,none⟩:Addr).add j=⟨w.heap.size,j,none⟩:=by unfold Addr.add;split <;> simp_all
 rw[hadd,cell_of_row _ _ j cs T (0,0) (heap_alloc_new w _)];simpa using h
theorem two_one (a b:ByteArray):∀ u∈[Value.string a,Value.string b],u.oneCell'=true:=by
 intro u hu;simp only[List.mem_cons,List.not_mem_nil,or_false] at hu
 rcases hu with rfl | rfl <;> rfl
theorem below_kept {w w':World} {B e s n:Nat} {v:Value} {xs:List Value} (h:w.ownsRow B e s v n xs) (hb:Below w.heap.size w w'):w'.ownsRow B e s v n xs:=
 h.kept (row:=none) ⟨hb.os,hb.tape,hb.output,hb.size,fun k hk _=>hb.block k hk⟩ (by cases v.ownBlock <;> simp)
theorem Two2.beyond {B:Nat} {w0 w w':World} {vp vt:Value} {ps:List Pt} {t:Bs} (h:Two2 B w0 w vp vt ps t) (hb:Below w.heap.size w w'):Two2 B w0 w' vp vt ps t:=
 ⟨below_kept h.parts hb,below_kept h.text hb,h.below.trans (hb.mono h.size),Nat.le_trans h.size hb.size⟩
def errOf (o:Option (List Pt)):Int:=match o with | none=>1 | some _=>0
def outOf (o:Option (List Pt)):List Pt:=match o with | none=>[] | some l=>l
def PostP (B:Nat) (w:World) (R:Option (List Pt) × Nat) (e:Ending) (w':World):Prop:=
 ∃ v,e= .returned (.tuple #[v,.int .i64 R.2,.int .i64 (errOf R.1)])∧w'.ownsRow B 88 2 v (outOf R.1).length (cellsP (outOf R.1))∧Below B w w'
theorem flush_len (ps:List Pt) (t:Bs):(flush ps t).length≤ps.length+1:=by unfold flush;split <;> simp
theorem postP_bad {w w':World} {vp vt:Value} {ps:List Pt} {t:Bs} {R:Option (List Pt) × Nat} {n:Nat} {q:Int} (h:Two2 w.heap.size w w' vp vt ps t) (hR:R=(none,n)) (hq:q=n):
  PostP w.heap.size w R (.returned (.tuple #[.slice none 0 0,.int .i64 q,.int .i64 1])) w':=by
 subst hR hq;exact⟨_,rfl,World.ownsRow_nil _ _ _ _,h.below⟩
def LoopQ (s:ByteArray) (w0:World) (R:Option (List Pt) × Nat) (vp tx a:Value) (w:World):Prop:=
 ∃ (k:Nat) (ps:List Pt) (t:Bs) (T:ByteArray),k≤s.size∧a= .int .i64 k∧tx= .string T∧T.data.toList=t∧goN (s.data.toList.drop k) k ps t=R∧Two2 w0.heap.size w0 w vp (.slice none 0 0) ps []∧ps.length≤k * 2∧t.length≤k
theorem one_byte (w:World) (x:Int) (c:UInt8) (e:(c.toNat:Int)=x):
  (convert 117 9 (.slice (some ⟨w.heap.size,0,none⟩) 1 1)).run Tryz.prog (w.alloc (.cells #[.int .u8 x] 5))= .ok (.string ⟨#[c]⟩) (w.alloc (.cells #[.int .u8 x] 5)):=by
 refine run_convert_bytes_back (P:=Tryz.prog) (w.alloc (.cells #[.int .u8 x] 5)) 117 9 5 ⟨w.heap.size,0,none⟩ 1 [c] Tryz.underlying117 Tryz.underlying5 Tryz.underlying9 ?_;intro j hj;obtain rfl:j=0:=by simpa using hj
 show _=some (Value.int .u8 (c.toNat:Int));rw[e];exact cell_one_new _ _ _ 0 _ rfl
theorem rparse_no (s:ByteArray) (n:Int) (hn:(n != 34)=true) (K:∀ w,Calls Tryz.prog 89 #[.string s,.int .i64 0] w fun e w'=>e= .returned (.int .u8 n)∧w=w') (hR:parse s.data.toList=(none,0)) (w:World):
  Calls Tryz.prog 59 #[.string s] w (PostP w.heap.size w (parse s.data.toList)):=by
 rw[hR];have K:=Lib.hid K;clear hR;go_enter Tryz.func59,Tryz.ntmps59;go_wp2_with (go_at_call 89;((with_reducible refine(K.out _).mono ?_));rintro e w' ⟨rfl,rfl⟩)
 go_ret3
 exact⟨_,rfl,World.ownsRow_nil _ _ _ _,Below.refl _ _⟩
theorem cat_data (T U:ByteArray) (t u:Bs) (h:T.data.toList=t) (g:U.data.toList=u):(T++U).data.toList=t++u:=by
 rw[ByteArray.data_append,Array.toList_append,h,g]
theorem rparse_loop (s:ByteArray) (hs:s.size≤4000) (h0:0<s.size) (hc:s[0]=34) (w:World):Calls Tryz.prog 59 #[.string s] w (PostP w.heap.size w (parse s.data.toList)):=by
 have hd:=drop_at s 0 h0;rw[drop0] at hd;obtain⟨R,hR⟩:∃ R,R=parse s.data.toList:=⟨_,rfl⟩;rw[←hR];rw[hd,hc,parse_quote] at hR;have HR:=Lib.hid hR.symm;have K24:Hid (∀ w,Calls Tryz.prog 89 #[.string s,.int .i64 0] w fun e w'=>e= .returned (.int .u8 34)∧w=w'):=Lib.hid fun w=>at_is s 0 h0 34 (by rw[hc];rfl) w
 obtain⟨i0,hi,hz0,hz1,hz2⟩:=info_parts info33;clear hd hc hR;go_enter Tryz.func59,Tryz.ntmps59;go_wp2_with (go_at_call 89;((with_reducible refine(K24.out _).mono ?_));rintro e w' ⟨rfl,rfl⟩)
 go_loopw [5,6,7] (fun vp tx a wr=>LoopQ s w R vp tx a wr) (fun _ _ a _=>s.size - (intOf a).toNat)
 case atStart=>exact⟨1,[],[],⟨#[]⟩,h0,rfl,rfl,rfl,HR.out,⟨World.ownsRow_nil _ _ _ _,World.ownsRow_nil _ _ _ _,Below.refl _ _,Nat.le_refl _⟩,by simp,by simp⟩
 case round=>
  obtain⟨k,ps,t,T,hk,rfl,rfl,hT0,hg,hT,hp,ht⟩:=hrel;have HG:=Lib.hid hg;have HT:=Lib.hid hT;have HT0:=Lib.hid hT0
  have hTs:T.size≤4000:=by
   have e:=len_data T;rw[hT0] at e;omega
  clear hg hT hT0;by_cases a:k<s.size
  ·obtain⟨c,hcc⟩:∃ c:Int,c=(s[k].toNat:Int):=⟨_,rfl⟩
   by_cases c34:s[k]=34
   ·have b34:((s[k].toNat:Int)==34)=true:=byte_eq (n:=34) c34 (by omega)
    have HX:Hid (R=(some (flush ps t),k+1)):=by
     apply Lib.hid;rw[←HG.out,drop_at s k a,c34,goN_stop (step_quote _)]
    clear c34 hcc;by_cases e0:t=[]
    ·have hz:T.toList=[]:=by rw[toList_data,HT0.out,e0]
     have hz2':T.toList.isEmpty=true:=by rw[hz];rfl
     have HF:Hid (flush ps t=ps):=by apply Lib.hid;unfold flush;rw[if_pos e0]
     clear e0;go_wp2
     go_ret3
     rw[HX.out];exact⟨_,rfl,by show World.ownsRow _ _ _ _ _ (flush ps t).length (cellsP (flush ps t));rw[HF.out];exact HT.out.parts,HT.out.below⟩
    ·have hz:¬ T.toList=[]:=by rw[toList_data,HT0.out];exact e0
     have hz2':T.toList.isEmpty=false:=by simpa using hz
     have HF:Hid (flush ps t=ps++[([],t)]):=by apply Lib.hid;unfold flush;rw[if_neg e0]
     clear e0;have hTe:Hid (T=⟨t.toArray⟩):=by apply Lib.hid;apply ByteArray.ext;rw[←HT0.out]
     go_wp2_with (at_builtin;refine wpList_append_own _ rfl (.tmp 34) (.tmp 37) 41 rfl w.heap.size 88 i0 (.agg #[.string ⟨#[]⟩,.string ⟨#[]⟩]) 2 32 Tryz.underlying41 hi hz0 hz1 hz2 rfl (by decide) _ _ _ rfl (HT.out.parts.alloc _) ⟨wr.heap.size,0,none⟩ 1 1 [.string ⟨#[]⟩,.string T] rfl rfl (fun j u hu=>new_cells wr 88 #[.string ⟨#[]⟩,.string T] j u hu) (two_one _ _) (by unfold maxLen;omega) (by omega) (HT.out.alloc _).size ?_;intro v2 w3 hown' hgrow _)
     go_ret3
     rw[HX.out];rw[hTe.out] at hown';have H3:=(HT.out.alloc _).part (p:=([],t)) hown' hgrow;exact⟨_,rfl,by show World.ownsRow _ _ _ _ _ (flush ps t).length (cellsP (flush ps t));rw[HF.out];exact H3.parts,H3.below⟩
   ·have b34:((s[k].toNat:Int)==34)=false:=byte_ne (n:=34) c34 (by omega)
    by_cases c36:s[k]=36
    ·have b36:((s[k].toNat:Int)==36)=true:=byte_eq (n:=36) c36 (by omega)
     have hst:step (s.data.toList.drop k)=stepVar (s.data.toList.drop (k+1)):=by rw[drop_at s k a,c36,step_dollar]
     have K25:∀ w1,Calls Tryz.prog 90 #[.string s,.int .i64 ((k:Int)+1)] w1 fun e w'=>e= .returned (resF k (step (s.data.toList.drop k)))∧w1=w':=fun w1=>by rw[hst];exact variable_any s k (k+1) rfl (by omega) w1
     have fl:=flush_len ps t
     rcases step_cases (s.data.toList.drop k) with ⟨n,hr⟩ | hr | ⟨nm,n,hr⟩ | ⟨b,n,hr⟩
     ·have HX:Hid (R=(none,k+n)):=by apply Lib.hid;rw[←HG.out,goN_bad hr]
      rw[hr] at K25;obtain⟨q,hq⟩:∃ q,q=k+n:=⟨_,rfl⟩;simp only[resF] at K25;rw[←hq] at K25 HX;have K25:=Lib.hid K25;clear hst hr hq c34 c36 hcc;by_cases e0:t=[]
      ·have hz:T.toList=[]:=by rw[toList_data,HT0.out,e0]
       have hz2':T.toList.isEmpty=true:=by rw[hz];rfl
       clear e0;go_wp2_with (go_at_call 90;((with_reducible refine(K25.out _).mono ?_));rintro e w1 ⟨rfl,rfl⟩)
       go_ret3
       exact postP_bad HT.out HX.out rfl
      ·have hz:¬ T.toList=[]:=by rw[toList_data,HT0.out];exact e0
       have hz2':T.toList.isEmpty=false:=by simpa using hz
       have hTe:T=⟨t.toArray⟩:=by apply ByteArray.ext;rw[←HT0.out]
       have hF3:∀ v2 w3,World.ownsRow w3 w.heap.size 88 2 v2 (ps.length+1) (cellsP ps++[.string ⟨#[]⟩,.string T])→(wr.alloc (.cells #[.string ⟨#[]⟩,.string T] 88)).grownBy w3 u5.ownBlock→Two2 w.heap.size w w3 v2 (.slice none 0 0) (ps++[([],t)]) []:=by
        intro v2 w3 ho hg;rw[hTe] at ho;exact(HT.out.alloc _).part (p:=([],t)) ho hg
       clear e0 hTe;go_wp2_with (first | (go_at_call 90;((with_reducible refine(K25.out _).mono ?_));rintro e w1 ⟨rfl,rfl⟩) | (at_builtin;refine wpList_append_own _ rfl (.tmp 34) (.tmp 37) 41 rfl w.heap.size 88 i0 (.agg #[.string ⟨#[]⟩,.string ⟨#[]⟩]) 2 32 Tryz.underlying41 hi hz0 hz1 hz2 rfl (by decide) _ _ _ rfl (HT.out.parts.alloc _) ⟨wr.heap.size,0,none⟩ 1 1 [.string ⟨#[]⟩,.string T] rfl rfl (fun j u hu=>new_cells wr 88 #[.string ⟨#[]⟩,.string T] j u hu) (two_one _ _) (by unfold maxLen;omega) (by omega) (HT.out.alloc _).size ?_;intro v2 w3 hown' hgrow _;have H3:=hF3 _ _ hown' hgrow;clear hown' hgrow))
       go_ret3
       exact postP_bad H3 HX.out rfl
     ·obtain⟨t,ht⟩:=stop_form hr
      rw[drop_at s k a] at ht;injection ht with ht _
      exact absurd ht c34
     ·obtain⟨n0,nl,_⟩:=var_local hr
      rw[List.length_drop,len_data] at nl;rw[hr] at K25;obtain⟨d,rfl⟩:∃ d,n=d+1:=⟨n - 1,by omega⟩
      have HX:Hid (goN (s.data.toList.drop (k+1+d)) (k+1+d) (flush ps t++[(nm,[])]) []=R):=by
       apply Lib.hid;rw[←HG.out,goN_var hr,List.drop_drop,show k+1+d=k+(d+1) by omega]
      have K25:Hid (∀ w1,Calls Tryz.prog 90 #[.string s,.int .i64 ((k:Int)+1)] w1 fun e w'=>e= .returned (.tuple #[.string ⟨nm.toArray⟩,.int .i64 d,.int .i64 0])∧w1=w'):=by
       apply Lib.hid;simp only[resF] at K25;rw[show ((d+1:Nat):Int) - 1=d by omega] at K25;exact K25
      clear hst hr c34 c36 hcc;by_cases e0:t=[]
      ·have hz:T.toList=[]:=by rw[toList_data,HT0.out,e0]
       have hz2':T.toList.isEmpty=true:=by rw[hz];rfl
       have HF:Hid (flush ps t=ps):=by apply Lib.hid;unfold flush;rw[if_pos e0]
       clear e0;go_wp2_with (first | (go_at_call 90;((with_reducible refine(K25.out _).mono ?_));rintro e w1 ⟨rfl,rfl⟩) | (at_builtin;refine wpList_append_own _ rfl (.tmp 57) (.tmp 60) 41 rfl w.heap.size 88 i0 (.agg #[.string ⟨#[]⟩,.string ⟨#[]⟩]) 2 32 Tryz.underlying41 hi hz0 hz1 hz2 rfl (by decide) _ _ _ rfl (HT.out.parts.alloc _) ⟨wr.heap.size,0,none⟩ 1 1 [.string ⟨nm.toArray⟩,.string ⟨#[]⟩] rfl rfl (fun j u hu=>new_cells wr 88 #[.string ⟨nm.toArray⟩,.string ⟨#[]⟩] j u hu) (two_one _ _) (by unfold maxLen;omega) (by omega) (HT.out.alloc _).size ?_;intro v4 w4 hown4 hgrow4 _))
       go_roundw
       case rel=>exact⟨k+1+d,ps++[(nm,[])],[],⟨#[]⟩,by omega,by go_num,rfl,rfl,by rw[←HX.out,HF.out],(HT.out.alloc _).part (p:=(nm,[])) hown4 hgrow4,by rw[List.length_append];simp;omega,by simp⟩
       case measure=>simp[intOf];omega
      ·have hz:¬ T.toList=[]:=by rw[toList_data,HT0.out];exact e0
       have hz2':T.toList.isEmpty=false:=by simpa using hz
       have hTe:T=⟨t.toArray⟩:=by apply ByteArray.ext;rw[←HT0.out]
       have HF:Hid (flush ps t=ps++[([],t)]):=by apply Lib.hid;unfold flush;rw[if_neg e0]
       have hF3:∀ v2 w3,World.ownsRow w3 w.heap.size 88 2 v2 (ps.length+1) (cellsP ps++[.string ⟨#[]⟩,.string T])→(wr.alloc (.cells #[.string ⟨#[]⟩,.string T] 88)).grownBy w3 u5.ownBlock→Two2 w.heap.size w w3 v2 (.slice none 0 0) (ps++[([],t)]) []:=by
        intro v2 w3 ho hg;rw[hTe] at ho;exact(HT.out.alloc _).part (p:=([],t)) ho hg
       have hl3:(ps++[(([]:Bs),t)]).length≤10000:=by rw[List.length_append];simp;omega
       clear e0 hTe;go_wp2_with (first | (go_at_call 90;((with_reducible refine(K25.out _).mono ?_));rintro e w1 ⟨rfl,rfl⟩) | (at_builtin;refine wpList_append_own _ rfl (.tmp 34) (.tmp 37) 41 rfl w.heap.size 88 i0 (.agg #[.string ⟨#[]⟩,.string ⟨#[]⟩]) 2 32 Tryz.underlying41 hi hz0 hz1 hz2 rfl (by decide) _ _ _ rfl (HT.out.parts.alloc _) ⟨wr.heap.size,0,none⟩ 1 1 [.string ⟨#[]⟩,.string T] rfl rfl (fun j u hu=>new_cells wr 88 #[.string ⟨#[]⟩,.string T] j u hu) (two_one _ _) (by unfold maxLen;omega) (by omega) (HT.out.alloc _).size ?_;intro v2 w3 hown' hgrow _;have H3:=hF3 _ _ hown' hgrow;clear hown' hgrow) | (at_builtin;refine wpList_append_own _ rfl (.tmp 57) (.tmp 60) 41 rfl w.heap.size 88 i0 (.agg #[.string ⟨#[]⟩,.string ⟨#[]⟩]) 2 32 Tryz.underlying41 hi hz0 hz1 hz2 rfl (by decide) _ _ _ rfl (H3.parts.alloc _) ⟨w3.heap.size,0,none⟩ 1 1 [.string ⟨nm.toArray⟩,.string ⟨#[]⟩] rfl rfl (fun j u hu=>new_cells w3 88 #[.string ⟨nm.toArray⟩,.string ⟨#[]⟩] j u hu) (two_one _ _) (by unfold maxLen;omega) (by omega) (H3.alloc _).size ?_;intro v4 w4 hown4 hgrow4 _))
       go_roundw
       case rel=>exact⟨k+1+d,ps++[([],t)]++[(nm,[])],[],⟨#[]⟩,by omega,by go_num,rfl,rfl,by rw[←HX.out,HF.out],(H3.alloc _).part (p:=(nm,[])) hown4 hgrow4,by rw[List.length_append,List.length_append];simp;omega,by simp⟩
       case measure=>simp[intOf];omega
     ·exfalso
      rcases byte_form hr with ⟨t,ht,hp,_⟩ | ⟨c,t,ht,_⟩ | ⟨c,d,t,ht,_⟩ <;> (rw[drop_at s k a,c36] at ht;injection ht with ht _;revert ht)
      ·intro ht;rw[←ht] at hp;revert hp;decide
      ·decide
      ·decide
    ·have b36:((s[k].toNat:Int)==36)=false:=byte_ne (n:=36) c36 (by omega)
     by_cases c92:s[k]=92
     ·have b92:((s[k].toNat:Int)==92)=true:=byte_eq (n:=92) c92 (by omega)
      have hst:step (s.data.toList.drop k)=stepEsc (s.data.toList.drop (k+1)):=by rw[drop_at s k a,c92,step_esc]
      have K26:∀ w1,Calls Tryz.prog 91 #[.string s,.int .i64 ((k:Int)+1)] w1 fun e w'=>e= .returned (resE k (step (s.data.toList.drop k)))∧Below w1.heap.size w1 w':=fun w1=>by rw[hst];exact escape_any s k (k+1) rfl (by omega) (by omega) w1
      rcases step_cases (s.data.toList.drop k) with ⟨n,hr⟩ | hr | ⟨nm,n,hr⟩ | ⟨b,n,hr⟩
      ·have HX:Hid (R=(none,k+n)):=by apply Lib.hid;rw[←HG.out,goN_bad hr]
       rw[hr] at K26;obtain⟨q,hq⟩:∃ q,q=k+n:=⟨_,rfl⟩;simp only[resE] at K26;rw[←hq] at K26 HX;have K26:=Lib.hid K26;clear hst hr hq c34 c36 c92 hcc;go_wp2_with (go_at_call 91;((with_reducible refine(K26.out _).mono ?_));rintro e w1 ⟨rfl,hb1⟩)
       go_ret3
       exact postP_bad (HT.out.beyond hb1) HX.out rfl
      ·obtain⟨t,ht⟩:=stop_form hr
       rw[drop_at s k a] at ht;injection ht with ht _
       exact absurd ht c34
      ·obtain⟨t,ht,_⟩:=svar_form hr
       rw[drop_at s k a] at ht;injection ht with ht _
       exact absurd ht c36
      ·obtain⟨n0,nl,_⟩:=byte_local hr
       rw[List.length_drop,len_data] at nl;rw[hr] at K26;obtain⟨d,rfl⟩:∃ d,n=d+1:=⟨n - 1,by omega⟩
       have HX:Hid (goN (s.data.toList.drop (k+1+d)) (k+1+d) ps (t++[b])=R):=by
        apply Lib.hid;rw[←HG.out,goN_byte hr,List.drop_drop,show k+1+d=k+(d+1) by omega]
       have K26:Hid (∀ w1,Calls Tryz.prog 91 #[.string s,.int .i64 ((k:Int)+1)] w1 fun e w'=>e= .returned (.tuple #[.int .u8 b.toNat,.int .i64 d,.int .i64 0])∧Below w1.heap.size w1 w'):=by
        apply Lib.hid;simp only[resE] at K26;rw[show ((d+1:Nat):Int) - 1=d by omega] at K26;exact K26
       have hone:=fun W:World=>one_byte W (b.toNat:Int) b rfl
       clear hst hr c34 c36 c92 hcc;go_wp2_with (go_at_call 91;((with_reducible refine(K26.out _).mono ?_));rintro e w1 ⟨rfl,hb1⟩)
       go_roundw
       case rel=>exact⟨k+1+d,ps,t++[b],_,by omega,by go_num,rfl,cat_data T _ t [b] HT0.out rfl,HX.out,(HT.out.beyond hb1).alloc _,by omega,by rw[List.length_append];simp;omega⟩
       case measure=>simp[intOf];omega
     ·have b92:((s[k].toNat:Int)==92)=false:=byte_ne (n:=92) c92 (by omega)
      by_cases hpl:plainB s[k]=true
      ·have hr:step (s.data.toList.drop k)= .byte s[k] 1:=by rw[drop_at s k a,step_plain _ _ hpl]
       have HX:Hid (goN (s.data.toList.drop (k+1)) (k+1) ps (t++[s[k]])=R):=by
        apply Lib.hid;rw[←HG.out,goN_byte hr,List.drop_drop]
       have hx:32≤(s[k].toNat:Int)∧(s[k].toNat:Int)≤126:=by
        have:=hpl;unfold plainB at this;simp at this;omega
       obtain⟨x1,x2⟩:=hx;have hone:=fun W:World=>one_byte W (s[k].toNat:Int) s[k] rfl
       clear hr hpl c34 c36 c92 hcc;go_wp2
       go_roundw
       case rel=>exact⟨k+1,ps,t++[s[k]],_,by omega,by go_num,rfl,cat_data T _ t [s[k]] HT0.out rfl,HX.out,HT.out.alloc _,by omega,by rw[List.length_append];simp;omega⟩
       case measure=>simp[intOf];omega
      ·have hr:step (s.data.toList.drop k)= .bad 0:=by rw[drop_at s k a];unfold step;simp[c34,c36,c92,hpl]
       have HX:Hid (R=(none,k)):=by apply Lib.hid;rw[←HG.out,goN_bad hr];rfl
       have hx:(s[k].toNat:Int)<32∨(32≤(s[k].toNat:Int)∧126<(s[k].toNat:Int)):=by
        have h3:¬ (s[k].toNat:Int)=34:=by intro e;exact c34 (by rw[←UInt8.toNat_inj];show s[k].toNat=34;omega)
        have h6:¬ (s[k].toNat:Int)=36:=by intro e;exact c36 (by rw[←UInt8.toNat_inj];show s[k].toNat=36;omega)
        have h9:¬ (s[k].toNat:Int)=92:=by intro e;exact c92 (by rw[←UInt8.toNat_inj];show s[k].toNat=92;omega)
        have:=hpl;unfold plainB at this;simp at this;omega
       clear hr hpl c34 c36 c92 hcc
       rcases hx with hx | ⟨hx,hx2⟩
       all_goals
        go_wp2
        go_ret3
        exact postP_bad HT.out HX.out rfl
  ·have HX:Hid (R=(none,k)):=by
    apply Lib.hid;rw[←HG.out,drop_end s k a,goN_bad (k:=0) rfl];rfl
   obtain rfl:k=s.size:=by omega
   go_wp2
   go_ret3
   exact postP_bad HT.out HX.out rfl
theorem rparse_any (s:ByteArray) (hs:s.size≤4000) (w:World):Calls Tryz.prog 59 #[.string s] w (PostP w.heap.size w (parse s.data.toList)):=by
 by_cases h0:0<s.size
 ·by_cases hc:s[0]=34
  ·exact rparse_loop s hs h0 hc w
  ·have hx:((s[0].toNat:Int) != 34)=true:=by
    have:=byte_ne (n:=34) hc (by omega);simp only[bne];simpa using this
   refine rparse_no s _ hx (fun w=>at_is s 0 h0 _ rfl w) ?_ w;have hd:=drop_at s 0 h0;rw[drop0] at hd;rw[hd,parse_no _ _ hc]
 ·refine rparse_no s 0 (by decide) (fun w=>at_ge s 0 h0 w) ?_ w
  rw[isEmpty_t s h0];rfl
theorem block_of_add (a:Addr) (n:Nat):(a.add n).block=a.block:=by unfold Addr.add;split <;> rfl
def RdA (B:Nat) (w:World) (ad:Addr) (ps:List Pt):Prop:=ad.block<B∧∀ j u,(cellsP ps)[j]?=some u→w.cell? (ad.add j)=some u
def Rd (B:Nat) (w:World) (A:Option Addr) (n:Nat) (ps:List Pt):Prop:=n=ps.length∧(0<n→∃ ad,A=some ad∧RdA B w ad ps)
theorem RdA.keep {B:Nat} {w w':World} {ad:Addr} {ps:List Pt} (h:RdA B w ad ps) (hb:Below B w w'):RdA B w' ad ps:=
 ⟨h.1,fun j u hu=>(hb.cell (by rw[block_of_add];exact h.1)).trans (h.2 j u hu)⟩
theorem Rd.keep {B:Nat} {w w':World} {A:Option Addr} {n:Nat} {ps:List Pt} (h:Rd B w A n ps) (hb:Below B w w'):Rd B w' A n ps:=
 ⟨h.1,fun hn=>by obtain⟨ad,e,hr⟩:=h.2 hn;exact⟨ad,e,hr.keep hb⟩⟩
theorem cellsP_cons (p:Pt) (r:List Pt):cellsP (p::r)= .string ⟨p.1.toArray⟩:: .string ⟨p.2.toArray⟩::cellsP r:=rfl
theorem cells_at:∀ (ps:List Pt) (k:Nat) (p:Pt),ps[k]?=some p→(cellsP ps)[k * 2]?=some (.string ⟨p.1.toArray⟩)∧(cellsP ps)[k * 2+1]?=some (.string ⟨p.2.toArray⟩)
 | [],k,p,h=>by simp at h
 | q::r,0,p,h=>by
   injection h with h;subst h;rw[cellsP_cons];simp
 | q::r,k+1,p,h=>by
   have ih:=cells_at r k p (by simpa using h);rw[cellsP_cons,show (k+1) * 2=k * 2+2 by omega];simpa using ih
theorem RdA.at_ {B:Nat} {w:World} {ad:Addr} {ps:List Pt} (h:RdA B w ad ps) {k:Nat} {p:Pt} (hk:ps[k]?=some p):
  w.cell? (ad.add (k * 2))=some (.string ⟨p.1.toArray⟩)∧w.cell? ⟨(ad.add (k * 2)).block,(ad.add (k * 2)).off+1,none⟩=some (.string ⟨p.2.toArray⟩):=by
 obtain⟨a,b⟩:=cells_at ps k p hk;refine⟨h.2 _ _ a,?_⟩
 have e:(⟨(ad.add (k * 2)).block,(ad.add (k * 2)).off+1,none⟩:Addr)=ad.add (k * 2+1):=by
  unfold Addr.add;by_cases hk:k * 2=0
  ·simp[hk]
  ·simp[hk,Nat.add_assoc]
 rw[e];exact h.2 _ _ b
theorem rd_of_own {w:World} {B:Nat} {v:Value} {ps:List Pt} (h:w.ownsRow B 88 2 v ps.length (cellsP ps)):∃ A c,v= .slice A ps.length c∧Rd w.heap.size w A ps.length ps:=by
 rcases h.2 with ⟨rfl,h0⟩ | ⟨g,cap,cur,rfl,hb,hg,_⟩
 ·exact⟨none,0,by rw[h0],rfl,fun hn=>by omega⟩
 ·refine⟨_,_,rfl,rfl,fun hn=>⟨_,rfl,(Array.getElem?_eq_some_iff.1 hg).1,h.cells (g:=g) rfl⟩⟩
theorem may_cons (b:Bool) (p:Pt) (r:List Pt):may b (p::r)=(okP b p && may (decide (p.1=[])) r):=rfl
section
section
variable {P:Program} (w:World)
end
end
theorem ba_eq (S:ByteArray) (l:Bs) (h:S.data.toList=l):S=⟨l.toArray⟩:=by
 apply ByteArray.ext;rw[←h]
theorem goN_len (r:Bs) (pos:Nat) (ps:List Pt) (t:Bs):∀ out,(goN r pos ps t).1=some out→out.length≤ps.length+1+2 * r.length:=by
 refine goN_ind (P:=fun r pos ps t=>∀ out,(goN r pos ps t).1=some out→out.length≤ps.length+1+2 * r.length) ?_ ?_ ?_ ?_ (r.length+1) r pos ps t (Nat.lt_succ_self _)
 ·intro r k pos ps t h out ho
  rw[goN_bad h] at ho;cases ho
 ·intro r pos ps t h out ho
  rw[goN_stop h] at ho;injection ho with ho;subst ho
  have:=flush_len ps t;omega
 ·intro r nm k pos ps t h h0 h1 ih out ho
  rw[goN_var h] at ho;have:=ih out ho;have h2:=flush_len ps t;rw[List.length_append,List.length_drop] at this;simp at this;omega
 ·intro r c k pos ps t h h0 h1 ih out ho
  rw[goN_byte h] at ho;have:=ih out ho;rw[List.length_drop] at this;omega
theorem parse_len (l:Bs) (out:List Pt) (h:(parse l).1=some out):out.length≤1+2 * l.length:=by
 cases l with
 | nil=>simp[parse] at h
 | cons c r=>
   by_cases hc:c=34
   ·subst hc
    rw[parse_quote] at h;have:=goN_len r 1 [] [] out h;simp at this ⊢;omega
   ·rw[parse_no c r hc] at h;cases h
theorem may_names:∀ (b:Bool) (ps:List Pt),may b ps=true→∀ p∈ps,p.1.length≤8
 | _,[],_,p,hp=>by simp at hp
 | b,q::r,h,p,hp=>by
   rw[may_cons,Bool.and_eq_true] at h
   rcases List.mem_cons.1 hp with rfl | hp
   ·have h1:=h.1
    unfold okP at h1
    split at h1
    ·rename_i e;rw[e];simp
    ·rw[Bool.and_eq_true] at h1
     have h2:=h1.2;unfold isName at h2;simp at h2;have:=(nameLen_le p.1).2;omega
   ·exact may_names _ r h.2 p hp
theorem prB_len (c:UInt8):(prB c).length≤4:=by
 have h:∀ c:UInt8,(prB c).length≤4:=all256 _ (by decide+kernel);exact h c
theorem bytes_len:∀ l:Bs,(l.flatMap prB).length≤4 * l.length
 | []=>by simp
 | c::l=>by
   have:=bytes_len l;have:=prB_len c;rw[List.flatMap_cons,List.length_append,List.length_cons];omega
theorem RdA.at0 {B:Nat} {w:World} {ad:Addr} {ps:List Pt} (h:RdA B w ad ps) {p:Pt} (hk:ps[0]?=some p):
  w.cell? ad=some (.string ⟨p.1.toArray⟩)∧w.cell? ⟨ad.block,ad.off+1,none⟩=some (.string ⟨p.2.toArray⟩):=by
 have h2:=h.at_ hk
 have e:ad.add (0 * 2)=ad:=by simp[Addr.add]
 rw[e] at h2;exact h2
end Go.Proofs.YtfgcdppebeojbaaGreatDoor
