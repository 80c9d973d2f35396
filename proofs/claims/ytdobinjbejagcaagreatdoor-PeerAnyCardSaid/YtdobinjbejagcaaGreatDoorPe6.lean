import Derived.Test.YtdobinjbejagcaaGreatDoorTkD
import Derived.Test.YtdobinjbejagcaaGreatDoorGlE
import Derived.Test.YtdobinjbejagcaaGreatDoorTkQ
namespace Go.Proofs.YtdobinjbejagcaaGreatDoor
open Go Go.RowKit
section
structure EdP where
 kind:Int
 text:Bs
 lo:Int
 hi:Int
 to:Int
structure PlP where
 name:Bs
 echo:Bool
 edges:List EdP
structure PeP where
 cap:Int
 places:List PlP
def globOk (s:Bs):Bool:=decide ((parseGl s).2.2=0)
def mayTimes (e:EdP):Bool:=decide (0≤e.lo∧e.lo≤9) && (decide (e.hi= -1) || decide (e.lo≤e.hi∧e.hi≤9))
def mayTo (n:Nat) (e:EdP):Bool:=decide (0≤e.to∧e.to<n)
def mayEd (p:PeP) (e:EdP):Bool:=
 if e.kind=1 then mayTimes e && (mayTo p.places.length e && decide (1≤e.text.length∧(e.text.length:Int)≤p.cap))
 else if e.kind=2 then decide (e.lo=0) && (decide (e.hi=0) && (mayTo p.places.length e && globOk e.text))
 else decide (e.kind=3) && (mayTimes e && (decide (e.to=0) && decide (e.text=[])))
def begins (w:Bs):Bool:=match w with
 | []=>false
 | c::_=>decide (97≤(c.toNat:Int))
def mayPl (p:PeP) (x:PlP):Bool:=isName x.name && (begins x.name && (decide (x.edges.length≤8) && x.edges.all (mayEd p)))
def noTwo (ns:List Bs):Bool:=decide ns.Nodup
def mayPe (p:PeP):Bool:=decide (1≤p.cap∧p.cap≤16) && (decide (1≤p.places.length∧p.places.length≤16) && (p.places.all (mayPl p) && noTwo (p.places.map (·.name))))
abbrev Sf:=List (Nat × Int)
abbrev Gs:=List (Bs × Nat)
inductive Rp (α:Type) where
 | ok (x:α) (j:Nat) (sf:Sf) (gs:Gs):Rp α
 | bad (j:Nat):Rp α
def Rp.then {α β:Type}:Rp α→(α→Nat→Rp β)→Rp β
 | .ok x j sf gs,f=>match f x j with
   | .ok y m sf' gs'=> .ok y m (sf++sf') (gs++gs')
   | .bad m=> .bad m
 | .bad j,_=> .bad j
def Rp.met {α:Type} (b:Bool) (k:Nat) (e:Int):Rp α→Rp α
 | .ok x j sf gs=> .ok x j ((if b then [(k,e)] else [])++sf) gs
 | .bad j=> .bad j
def tokP0:Tok:=⟨0,[],0,[],0⟩
def nxp (l:List Tok) (k:Nat):Tok:=l[k]?.getD tokP0
theorem nxp_at {l:List Tok} {k:Nat} {t:Tok} (h:l[k]?=some t):nxp l k=t:=by unfold nxp;rw[h];rfl
theorem nxp_end {l:List Tok} {k:Nat} (h:¬ k<l.length):nxp l k=tokP0:=by unfold nxp;rw[List.getElem?_eq_none (by omega)];rfl
theorem nxp_lt {l:List Tok} {k:Nat} (h:(nxp l k).kind≠0):k<l.length:=by
 by_cases c:k<l.length
 ·exact c
 ·rw[nxp_end c] at h;exact absurd rfl h
def isP (l:List Tok) (kd:Int) (w:Bs) (k:Nat):Bool:=decide ((nxp l k).kind=kd∧(nxp l k).word=w)
theorem isP_lt {l:List Tok} {kd:Int} {w:Bs} {k:Nat} (h:isP l kd w k=true) (hk:kd≠0):k<l.length:=nxp_lt (by have:=of_decide_eq_true h;rw[this.1];exact hk)
def oneT (ps:List Pt):Option Bs:=match ps with
 | []=>some []
 | [p]=>if p.1=[] then some p.2 else none
 | _=>none
def wCap:Bs:=[99,97,112]
def wAt:Bs:=[97,116]
def wEcho:Bs:=[101,99,104,111]
def wEmit:Bs:=[101,109,105,116]
def wLine:Bs:=[108,105,110,101]
def wShut:Bs:=[115,104,117,116]
def wAfter:Bs:=[97,102,116,101,114]
def wEver:Bs:=[101,118,101,114]
def wGoto:Bs:=[103,111,116,111]
section
variable (l:List Tok)
def needP (kd:Int) (w:Bs) (k:Nat):Rp Unit:=if isP l kd w k then .ok () (k+1) [] [] else .bad k
def takeP (kd:Int) (k:Nat):Rp Tok:=if (nxp l k).kind=kd then .ok (nxp l k) (k+1) [] [] else .bad k
def nameP (k:Nat):Rp Bs:=if (nxp l k).kind=1∧isName (nxp l k).word=true then .ok (nxp l k).word (k+1) [] [] else .bad k
def textP (k:Nat):Rp Bs:=if (nxp l k).kind=3 then (match oneT (nxp l k).parts with | some s=> .ok s (k+1) [] [] | none=> .bad k) else .bad k
def smlP (k:Nat):Rp Int:=(takeP l 2 k).then fun t j=>(Rp.ok (if 9<t.n then 9 else t.n) j [] []).met (decide (9<t.n)) k 2
def delayP (k:Nat):Rp (Int × Int):=(needP l 1 wAfter k).then fun _ i=>(smlP l i).then fun lo j=>
 if isP l 1 wEver j then .ok (lo, -1) (j+1) [] [] else (smlP l j).then fun hi m=>(Rp.ok (lo,hi) m [] []).met (decide (hi<lo∧(nxp l j).n≤9)) j 5
def toP (g:Nat) (k:Nat):Rp Int:=(needP l 1 wGoto k).then fun _ i=>(nameP l i).then fun w j=> .ok g j [] [(w,i)]
def edgeP (cap:Int) (many g k:Nat):Rp EdP:=Rp.met (decide (8≤many)) k 9 (
 if isP l 1 wEmit k then (textP l (k+1)).then fun s i=>Rp.met (decide (s=[]∨cap<s.length)) (k+1) 5 ((delayP l i).then fun d j=>(toP l g j).then fun t m=> .ok ⟨1,s,d.1,d.2,t⟩ m [] [])
 else if isP l 1 wLine k then (textP l (k+1)).then fun s i=>Rp.met (!globOk s) (k+1) 5 ((toP l g i).then fun t m=> .ok ⟨2,s,0,0,t⟩ m [] [])
 else (needP l 1 wShut k).then fun _ i=>(delayP l i).then fun d j=> .ok ⟨3,[],d.1,d.2,0⟩ j [] [])
def goesP (e:EdP):Nat:=if e.kind=3 then 0 else 1
def edgesP (cap:Int):Nat→Nat→Nat→Nat→Rp (List EdP)
 | 0,_,_,k=> .bad k
 | N+1,many,g,k=>if isP l 4 [125] k then .ok [] k [] [] else (edgeP l cap many g k).then fun e i=>(edgesP cap N (many+1) (g+goesP e) i).then fun es m=> .ok (e::es) m [] []
def echoP (k:Nat):Rp Bool:=if isP l 1 wEcho k then .ok true (k+1) [] [] else .ok false k [] []
def placeP (cap:Int) (ns:List Bs) (g k:Nat):Rp PlP:=(needP l 1 wAt k).then fun _ i=>Rp.met (decide (16≤ns.length)) k 9 (
 (nameP l i).then fun w j=>Rp.met (ns.contains w) i 12 ((echoP l j).then fun b m=>(needP l 4 [123] m).then fun _ q=>(edgesP l cap (l.length+1) 0 g q).then fun es r=>(needP l 4 [125] r).then fun _ v=> .ok ⟨w,b,es⟩ v [] []))
def goesL (es:List EdP):Nat:=es.foldl (fun n e=>n+goesP e) 0
def placesP (cap:Int):Nat→List Bs→Nat→Nat→Rp (List PlP)
 | 0,_,_,k=> .bad k
 | N+1,ns,g,k=>(placeP l cap ns g k).then fun x i=>if i<l.length then (placesP cap N (ns++[x.name]) (g+goesL x.edges) i).then fun xs m=> .ok (x::xs) m [] [] else .ok [x] i [] []
def allP:Rp PeP:=(needP l 1 wCap 0).then fun _ i=>(takeP l 2 i).then fun t j=>Rp.met (decide (t.n<1∨16<t.n)) i 2 ((placesP l t.n (l.length+1) [] 0 j).then fun xs m=> .ok ⟨t.n,xs⟩ m [] [])
end
def idxP (ns:List Bs) (w:Bs):Int:=if w∈ns then ns.idxOf w else -1
def linkE (ns:List Bs) (gs:Gs) (e:EdP):EdP:=if e.kind=3 then e else ⟨e.kind,e.text,e.lo,e.hi,idxP ns (gs[e.to.toNat]?.getD ([],0)).1⟩
def linkX (ns:List Bs) (gs:Gs) (x:PlP):PlP:=⟨x.name,x.echo,x.edges.map (linkE ns gs)⟩
def linkP (gs:Gs) (p:PeP):PeP:=⟨p.cap,p.places.map (linkX (p.places.map (·.name)) gs)⟩
def linkS (ns:List Bs) (gs:Gs):Sf:=gs.filterMap fun x=>if x.1∈ns then none else some (x.2,6)
def softP (l:List Tok) (b:Option (Int × Int)) (x:Nat × Int):Option (Int × Int):=match b with
 | none=>some ((nxp l x.1).pl,x.2)
 | some y=>if (nxp l x.1).pl<y.1 then some ((nxp l x.1).pl,x.2) else some y
def softsP (l:List Tok) (b:Option (Int × Int)) (sf:Sf):Option (Int × Int):=sf.foldl (softP l) b
def placeOf (n:Nat) (l:List Tok) (k:Nat):Int:=if k<l.length then (nxp l k).pl else n
def outPe (n:Nat) (l:List Tok):Option PeP × Int × Int:=match allP l with
 | .bad j=>(none,placeOf n l j,1)
 | .ok p _ sf gs=>match softsP l none (sf++linkS (p.places.map (·.name)) gs) with
   | some (k,e)=>(none,k,e)
   | none=>(some (linkP gs p),0,0)
def parsePe (s:Bs):Option PeP × Int × Int:=if 1000<s.length then (none,1000,2) else match scan s with
 | (none,q,e)=>(none,q,e)
 | (some l,_,_)=>outPe s.length l
end
def wdT (w:Bs):Tok:=⟨1,w,0,[],0⟩
def sgn (w:Bs):Tok:=⟨4,w,0,[],0⟩
def nmb (n:Int):Tok:=⟨2,[],n,[],0⟩
def txt (s:Bs):Tok:=⟨3,[],0,if s=[] then [] else [([],s)],0⟩
def tokDl (e:EdP):List Tok:=[wdT wAfter,nmb e.lo,if e.hi<0 then wdT wEver else nmb e.hi]
def toN (ns:List Bs) (e:EdP):Bs:=ns[e.to.toNat]?.getD []
def tokEd (ns:List Bs) (e:EdP):List Tok:=
 if e.kind=1 then [wdT wEmit,txt e.text]++(tokDl e++[wdT wGoto,wdT (toN ns e)])
 else if e.kind=2 then [wdT wLine,txt e.text]++[wdT wGoto,wdT (toN ns e)] else [wdT wShut]++tokDl e
def tokPl (ns:List Bs) (x:PlP):List Tok:=[wdT wAt,wdT x.name]++((if x.echo then [wdT wEcho] else [])++([sgn [123]]++(x.edges.flatMap (tokEd ns)++[sgn [125]])))
def tokPe (p:PeP):List Tok:=[wdT wCap,nmb p.cap]++p.places.flatMap (tokPl (p.places.map (·.name)))
def HasT (l:List Tok):Nat→List Tok→Prop
 | _,[]=>True
 | k,t::r=>k<l.length∧withPl (nxp l k) 0=withPl t 0∧HasT l (k+1) r
theorem has_app {l:List Tok}:∀ (a:List Tok) {k:Nat} {b:List Tok},HasT l k (a++b)→HasT l k a∧HasT l (k+a.length) b
 | [],k,b,h=>⟨trivial,h⟩
 | t::a,k,b,⟨h1,h2,h3⟩=>by
   obtain⟨p,q⟩:=has_app a h3;refine⟨⟨h1,h2,p⟩,?_⟩;rw[List.length_cons,show k+(a.length+1)=k+1+a.length by omega];exact q
theorem has_all {ts:List Tok}:∀ (l:List Tok),noPl l=noPl ts→HasT l 0 ts:=by
 have:∀ (a b l pre:List Tok),l=pre++a→noPl a=noPl b→HasT l pre.length b:=by
  intro a
  induction a with
  | nil=>intro b l pre hl h;cases b with | nil=>trivial | cons x y=>cases h
  | cons t r ih=>
    intro b l pre hl h
    cases b with
    | nil=>cases h
    | cons x y=>
      injection h with h1 h2
      have hk:l[pre.length]?=some t:=by rw[hl];simp
      refine⟨by rw[hl];simp,by rw[nxp_at hk];exact h1,?_⟩;have:=ih y l (pre++[t]) (by rw[hl];simp) h2;rwa [List.length_append,List.length_singleton] at this
 intro l h;exact this l ts l [] rfl h
theorem has_one {l:List Tok} {k:Nat} {t:Tok} {r:List Tok} (h:HasT l k (t::r)):(nxp l k).kind=t.kind∧(nxp l k).word=t.word∧(nxp l k).n=t.n∧(nxp l k).parts=t.parts:=by
 obtain⟨-,h, -⟩:=h;unfold withPl at h;injection h with a b c d e
 exact⟨a,b,c,d⟩
theorem has_is {l:List Tok} {k:Nat} {t:Tok} {r:List Tok} (h:HasT l k (t::r)) (kd:Int) (w:Bs):isP l kd w k=decide (t.kind=kd∧t.word=w):=by
 obtain⟨a,b, -⟩:=has_one h;unfold isP;rw[a,b]
theorem need_has {l:List Tok} {k:Nat} {r:List Tok} {kd:Int} {w:Bs} {n:Int} {ps:List Pt} {pl:Int} (h:HasT l k (⟨kd,w,n,ps,pl⟩::r)):needP l kd w k= .ok () (k+1) [] []:=by
 unfold needP;rw[has_is h,if_pos (by simp)]
theorem name_has {l:List Tok} {k:Nat} {r:List Tok} {w:Bs} (h:HasT l k (wdT w::r)) (hw:isName w=true):nameP l k= .ok w (k+1) [] []:=by
 obtain⟨a,b, -⟩:=has_one h;unfold nameP;rw[a,b,if_pos ⟨rfl,hw⟩];rfl
theorem text_has {l:List Tok} {k:Nat} {r:List Tok} {s:Bs} (h:HasT l k (txt s::r)):textP l k= .ok s (k+1) [] []:=by
 obtain⟨a, -, -,d⟩:=has_one h;unfold textP;rw[a,if_pos (show (txt s).kind=3 from rfl),d];by_cases hs:s=[]
 ·subst hs;rfl
 ·have:(txt s).parts=[([],s)]:=if_neg hs
  rw[this];rfl
theorem small_has {l:List Tok} {k:Nat} {r:List Tok} {n:Int} (h:HasT l k (nmb n::r)) (hn:n≤9):smlP l k= .ok n (k+1) [] []:=by
 obtain⟨a, -,c, -⟩:=has_one h;have e:takeP l 2 k= .ok (nxp l k) (k+1) [] []:=by unfold takeP;rw[a,if_pos (show (nmb n).kind=2 from rfl)]
 have c:(nxp l k).n=n:=c;unfold smlP;rw[e];simp only[Rp.then,Rp.met,c,show ¬ (9<n) by omega,if_false,decide_false,List.nil_append,Bool.false_eq_true]
theorem delay_has {l:List Tok} {k:Nat} {r:List Tok} {e:EdP} (h:HasT l k (tokDl e++r)) (ht:mayTimes e=true):delayP l k= .ok (e.lo,e.hi) (k+3) [] []:=by
 unfold mayTimes at ht;simp only[Bool.and_eq_true,Bool.or_eq_true,decide_eq_true_eq] at ht;obtain⟨⟨h0,h9⟩,hh⟩:=ht;have h1:HasT l k (wdT wAfter::nmb e.lo::(if e.hi<0 then wdT wEver else nmb e.hi)::r):=h;have h2:HasT l (k+1) (nmb e.lo::(if e.hi<0 then wdT wEver else nmb e.hi)::r):=h1.2.2;have h3:HasT l (k+1+1) ((if e.hi<0 then wdT wEver else nmb e.hi)::r):=h2.2.2;unfold delayP;rw[need_has h1];simp only[Rp.then];rw[small_has h2 h9];simp only[List.nil_append];by_cases hn:e.hi<0
 ·rw[if_pos hn] at h3
  rw[has_is h3,show decide ((wdT wEver).kind=1∧(wdT wEver).word=wEver)=true by decide,if_pos rfl]
  rcases hh with hh | hh
  ·rw[hh]
  ·omega
 ·rw[if_neg hn] at h3
  rw[has_is h3,if_neg (by simp[nmb]),small_has h3 (by omega)];have:decide (e.hi<e.lo∧(nxp l (k+1+1)).n≤9)=false:=decide_eq_false (by omega);simp only[Rp.met,this,List.nil_append,Bool.false_eq_true,if_false]
theorem to_has {l:List Tok} {k g:Nat} {r:List Tok} {w:Bs} (h:HasT l k (wdT wGoto::wdT w::r)) (hw:isName w=true):toP l g k= .ok g (k+2) [] [(w,k+1)]:=by
 have h2:HasT l (k+1) (wdT w::r):=h.2.2;unfold toP;rw[need_has h];simp only[Rp.then];rw[name_has h2 hw]
 rfl
def renum (g:Nat) (e:EdP):EdP:=⟨e.kind,e.text,e.lo,e.hi,if e.kind=3 then e.to else g⟩
def goN1 (ns:List Bs) (e:EdP):List Bs:=if e.kind=3 then [] else [toN ns e]
theorem toN_at {ns:List Bs} {e:EdP} (h:mayTo ns.length e=true):∃ hi:e.to.toNat<ns.length,toN ns e=ns[e.to.toNat]∧(e.to.toNat:Int)=e.to:=by
 unfold mayTo at h;have h:=of_decide_eq_true h;have hi:e.to.toNat<ns.length:=by omega
 exact⟨hi,by unfold toN;rw[List.getElem?_eq_getElem hi];rfl,by omega⟩
theorem edge_has {l:List Tok} {p:PeP} {e:EdP} {ns:List Bs} {k many g:Nat} {r:List Tok} (hns:ns=p.places.map (·.name)) (hnm:∀ w∈ns,isName w=true) (he:mayEd p e=true) (hm:many<8) (h:HasT l k (tokEd ns e++r)):
  ∃ gs,edgeP l p.cap many g k= .ok (renum g e) (k+(tokEd ns e).length) [] gs∧gs.map (·.1)=goN1 ns e:=by
 have hlen:p.places.length=ns.length:=by rw[hns,List.length_map]
 have h8:decide (8≤many)=false:=decide_eq_false (by omega);unfold mayEd at he;unfold edgeP;rw[h8]
 rcases e with ⟨kd,s,lo,hi,to⟩
 by_cases k1:kd=1
 ·subst k1
  simp only[if_true,hlen,Bool.and_eq_true,decide_eq_true_eq] at he;obtain⟨ht,hto,hl1,hl2⟩:=he;obtain⟨hi',hN, -⟩:=toN_at hto;have hE:tokEd ns ⟨1,s,lo,hi,to⟩=[wdT wEmit,txt s]++(tokDl ⟨1,s,lo,hi,to⟩++[wdT wGoto,wdT (toN ns ⟨1,s,lo,hi,to⟩)]):=by unfold tokEd;rw[if_pos rfl]
  rw[hE] at h;have a1:HasT l k (wdT wEmit::txt s::(tokDl ⟨1,s,lo,hi,to⟩++([wdT wGoto,wdT (toN ns ⟨1,s,lo,hi,to⟩)]++r))):=by simpa using h
  have a2:HasT l (k+1) (txt s::(tokDl ⟨1,s,lo,hi,to⟩++([wdT wGoto,wdT (toN ns ⟨1,s,lo,hi,to⟩)]++r))):=a1.2.2;have a3:HasT l (k+1+1) (tokDl ⟨1,s,lo,hi,to⟩++([wdT wGoto,wdT (toN ns ⟨1,s,lo,hi,to⟩)]++r)):=a2.2.2;have a4:HasT l (k+1+1+3) (wdT wGoto::wdT (toN ns ⟨1,s,lo,hi,to⟩)::r):=(has_app _ a3).2;rw[has_is a1,show decide ((wdT wEmit).kind=1∧(wdT wEmit).word=wEmit)=true by decide,if_pos rfl,text_has a2];simp only[Rp.then];rw[delay_has a3 ht];simp only;rw[to_has a4 (hnm _ (by rw[hN];exact List.getElem_mem _))]
  have hsf:decide (s=[]∨p.cap<s.length)=false:=decide_eq_false (by
   rintro(rfl | q)
   ·simp at hl1
   ·omega)
  refine⟨[(toN ns ⟨1,s,lo,hi,to⟩,k+1+1+3+1)],?_,rfl⟩;rw[hE];simp only[Rp.met,hsf,List.nil_append,List.append_nil,Bool.false_eq_true,if_false,renum,if_neg (show ¬ (1:Int)=3 by decide)]
  congr 1
 ·simp only[if_neg k1] at he
  by_cases k2:kd=2
  ·subst k2
   simp only[if_true,hlen,Bool.and_eq_true,decide_eq_true_eq] at he;obtain⟨rfl,rfl,hto,hg⟩:=he;obtain⟨hi',hN, -⟩:=toN_at hto;have hE:tokEd ns ⟨2,s,0,0,to⟩=[wdT wLine,txt s]++[wdT wGoto,wdT (toN ns ⟨2,s,0,0,to⟩)]:=by unfold tokEd;rw[if_neg (show ¬ (2:Int)=1 by decide),if_pos rfl]
   rw[hE] at h;have a1:HasT l k (wdT wLine::txt s::([wdT wGoto,wdT (toN ns ⟨2,s,0,0,to⟩)]++r)):=by simpa using h
   have a2:HasT l (k+1) (txt s::([wdT wGoto,wdT (toN ns ⟨2,s,0,0,to⟩)]++r)):=a1.2.2;have a3:HasT l (k+1+1) (wdT wGoto::wdT (toN ns ⟨2,s,0,0,to⟩)::r):=a2.2.2;rw[has_is a1,show decide ((wdT wLine).kind=1∧(wdT wLine).word=wEmit)=false by decide,if_neg (by decide),has_is a1,show decide ((wdT wLine).kind=1∧(wdT wLine).word=wLine)=true by decide,if_pos rfl,text_has a2];simp only[Rp.then];rw[to_has a3 (hnm _ (by rw[hN];exact List.getElem_mem _))];refine⟨[(toN ns ⟨2,s,0,0,to⟩,k+1+1+1)],?_,rfl⟩;rw[hE];simp only[Rp.met,hg,Bool.not_true,List.nil_append,List.append_nil,Bool.false_eq_true,if_false,renum,if_neg (show ¬ (2:Int)=3 by decide)]
   congr 1
  ·simp only[if_neg k2,Bool.and_eq_true,decide_eq_true_eq] at he
   obtain⟨rfl,ht,rfl,rfl⟩:=he;have hE:tokEd ns ⟨3,[],lo,hi,0⟩=[wdT wShut]++tokDl ⟨3,[],lo,hi,0⟩:=by unfold tokEd;rw[if_neg (show ¬ (3:Int)=1 by decide),if_neg (show ¬ (3:Int)=2 by decide)]
   rw[hE] at h;have a1:HasT l k (wdT wShut::(tokDl ⟨3,[],lo,hi,0⟩++r)):=by simpa using h
   have a2:HasT l (k+1) (tokDl ⟨3,[],lo,hi,0⟩++r):=a1.2.2;rw[has_is a1,show decide ((wdT wShut).kind=1∧(wdT wShut).word=wEmit)=false by decide,if_neg (by decide),has_is a1,show decide ((wdT wShut).kind=1∧(wdT wShut).word=wLine)=false by decide,if_neg (by decide),need_has a1];simp only[Rp.then];rw[delay_has a2 ht];refine⟨[],?_,rfl⟩;rw[hE];simp only[Rp.met,List.append_nil,Bool.false_eq_true,if_false,renum,if_pos]
   congr 1
theorem has_len {l:List Tok}:∀ (ts:List Tok) {k:Nat},HasT l k ts→ts≠[]→k+ts.length≤l.length
 | [],_,_,h=>absurd rfl h
 | [t],k,h,_=>by have:=h.1;simp;omega
 | t::u::r,k,h,_=>by
   have:=has_len (u::r) h.2.2 (by simp);rw[List.length_cons];omega
theorem tokEd_head (ns:List Bs) (e:EdP):∃ w r,tokEd ns e=wdT w::r:=by
 unfold tokEd
 split
 ·exact⟨_,_,rfl⟩
 ·split
  ·exact⟨_,_,rfl⟩
  ·exact⟨_,_,rfl⟩
def numE:Nat→List EdP→List EdP
 | _,[]=>[]
 | g,e::es=>renum g e::numE (g+goesP e) es
theorem edges_has {l:List Tok} {p:PeP} {ns:List Bs} (hns:ns=p.places.map (·.name)) (hnm:∀ w∈ns,isName w=true):∀ (es:List EdP) (N many g k:Nat) (r:List Tok),(∀ e∈es,mayEd p e=true)→many+es.length≤8→es.length<N→HasT l k (es.flatMap (tokEd ns)++sgn [125]::r)→
  ∃ gs,edgesP l p.cap N many g k= .ok (numE g es) (k+(es.flatMap (tokEd ns)).length) [] gs∧gs.map (·.1)=es.flatMap (goN1 ns)
 | [],0,_,_,_,_,_,_,h,_=>absurd h (by simp)
 | [],N+1,many,g,k,r,_,_,_,h=>by
   refine⟨[],?_,rfl⟩;have h:HasT l k (sgn [125]::r):=h;unfold edgesP;rw[has_is h,show decide ((sgn [125]).kind=4∧(sgn [125]).word=[125])=true by decide,if_pos rfl]
   rfl
 | e::es,0,_,_,_,_,_,_,h,_=>absurd h (by simp)
 | e::es,N+1,many,g,k,r,hm,h8,hN,h=>by
   rw[List.length_cons] at h8 hN;obtain⟨w,q,hw⟩:=tokEd_head ns e;have h':HasT l k (tokEd ns e++(es.flatMap (tokEd ns)++sgn [125]::r)):=by simpa using h
   have h0:HasT l k (wdT w::(q++(es.flatMap (tokEd ns)++sgn [125]::r))):=by rw[hw] at h';simpa using h'
   obtain⟨gs,h1,h2⟩:=edge_has (g:=g) hns hnm (hm e (by simp)) (show many<8 by omega) h';obtain⟨gs',h3,h4⟩:=edges_has hns hnm es N (many+1) (g+goesP e) (k+(tokEd ns e).length) r (fun e he=>hm e (by simp[he])) (by omega) (by omega) (has_app _ h').2;refine⟨gs++gs',?_,by rw[List.map_append,h2,h4];rfl⟩;unfold edgesP;rw[has_is h0,if_neg (by simp[wdT]),h1];simp only[Rp.then];rw[show goesP (renum g e)=goesP e from rfl,h3];simp only[numE,List.flatMap_cons,List.length_append,List.append_nil,Nat.add_assoc]
def numX:Nat→List PlP→List PlP
 | _,[]=>[]
 | g,x::xs=>⟨x.name,x.echo,numE g x.edges⟩::numX (g+goesL x.edges) xs
theorem goesL_acc (es:List EdP):∀ n,es.foldl (fun n e=>n+goesP e) n=n+goesL es:=by
 unfold goesL
 induction es with
 | nil=>intro n;rfl
 | cons e es ih=>intro n;rw[List.foldl_cons,List.foldl_cons,ih,ih (0+goesP e)];omega
theorem goesL_cons (e:EdP) (es:List EdP):goesL (e::es)=goesP e+goesL es:=by
 show List.foldl _ _ _=_;rw[List.foldl_cons,goesL_acc];omega
theorem goesL_names (ns:List Bs):∀ es:List EdP,goesL es=(es.flatMap (goN1 ns)).length
 | []=>rfl
 | e::es=>by
   rw[goesL_cons,goesL_names ns es,List.flatMap_cons,List.length_append]
   congr 1
   unfold goesP goN1
   split <;> rfl
theorem goesL_num:∀ (es:List EdP) (g:Nat),goesL (numE g es)=goesL es
 | [],_=>rfl
 | e::es,g=>by rw[numE,goesL_cons,goesL_cons,goesL_num es];rfl
theorem flat_len (ns:List Bs):∀ es:List EdP,es.length≤(es.flatMap (tokEd ns)).length
 | []=>Nat.le_refl _
 | e::es=>by
   have:=flat_len ns es;obtain⟨w,r,hw⟩:=tokEd_head ns e;rw[List.flatMap_cons,hw,List.length_append,List.length_cons,List.length_cons];omega
theorem place_has {l:List Tok} {p:PeP} {x:PlP} {ns pre:List Bs} {k g:Nat} {r:List Tok} (hns:ns=p.places.map (·.name)) (hnm:∀ w∈ns,isName w=true) (hx:mayPl p x=true) (hp:pre.length<16) (hn:¬ x.name∈pre) (h:HasT l k (tokPl ns x++r)):
  ∃ gs,placeP l p.cap pre g k= .ok ⟨x.name,x.echo,numE g x.edges⟩ (k+(tokPl ns x).length) [] gs∧gs.map (·.1)=x.edges.flatMap (goN1 ns):=by
 unfold mayPl at hx;simp only[Bool.and_eq_true,decide_eq_true_eq,List.all_eq_true] at hx;obtain⟨n1, -,n8,nE⟩:=hx;have hE:tokPl ns x=[wdT wAt,wdT x.name]++((if x.echo then [wdT wEcho] else [])++([sgn [123]]++(x.edges.flatMap (tokEd ns)++[sgn [125]]))):=rfl;have a1:HasT l k (wdT wAt::wdT x.name::((if x.echo then [wdT wEcho] else [])++(sgn [123]::(x.edges.flatMap (tokEd ns)++sgn [125]::r)))):=by rw[hE] at h;simpa using h
 have a2:HasT l (k+1) (wdT x.name::((if x.echo then [wdT wEcho] else [])++(sgn [123]::(x.edges.flatMap (tokEd ns)++sgn [125]::r)))):=a1.2.2;have a3:HasT l (k+1+1) ((if x.echo then [wdT wEcho] else [])++(sgn [123]::(x.edges.flatMap (tokEd ns)++sgn [125]::r))):=a2.2.2;have a4:=(has_app _ a3).2
 have hecho:echoP l (k+1+1)= .ok x.echo (k+1+1+(if x.echo then [wdT wEcho] else []).length) [] []:=by
  cases he:x.echo with
  | true=>
    rw[he] at a3;have a3:HasT l (k+1+1) (wdT wEcho::(sgn [123]::(x.edges.flatMap (tokEd ns)++sgn [125]::r))):=a3;unfold echoP;rw[has_is a3,show decide ((wdT wEcho).kind=1∧(wdT wEcho).word=wEcho)=true by decide,if_pos rfl]
    rfl
  | false=>
    rw[he] at a3;have a3:HasT l (k+1+1) (sgn [123]::(x.edges.flatMap (tokEd ns)++sgn [125]::r)):=a3;unfold echoP;rw[has_is a3,if_neg (by simp[sgn])]
    rfl
 obtain⟨q,hq⟩:∃ q,q=k+1+1+(if x.echo then [wdT wEcho] else []).length:=⟨_,rfl⟩;rw[←hq] at a4 hecho;have a5:HasT l (q+1) (x.edges.flatMap (tokEd ns)++sgn [125]::r):=a4.2.2;have hlen:=has_len _ a5 (by simp);have hfl:=flat_len ns x.edges;rw[List.length_append,List.length_cons] at hlen;obtain⟨gs,h1,h2⟩:=edges_has hns hnm x.edges (l.length+1) 0 g (q+1) r nE (by omega) (by omega) a5;have a6:HasT l (q+1+(x.edges.flatMap (tokEd ns)).length) (sgn [125]::r):=(has_app _ a5).2;have h16:decide (16≤pre.length)=false:=decide_eq_false (by omega)
 have hc:pre.contains x.name=false:=by
  cases hc:pre.contains x.name with
  | false=>rfl
  | true=>exact absurd (List.contains_iff_mem.1 hc) hn
 refine⟨gs,?_,h2⟩;unfold placeP;rw[need_has a1];simp only[Rp.then];rw[name_has a2 n1];simp only;rw[hecho];simp only;rw[need_has a4];simp only;rw[h1];simp only;rw[need_has a6];simp only[Rp.met,h16,hc,List.nil_append,List.append_nil,Bool.false_eq_true,if_false]
 congr 1
 rw[hE,hq];simp only[List.length_append,List.length_cons,List.length_nil];omega
def goNX (ns:List Bs) (xs:List PlP):List Bs:=xs.flatMap fun x=>x.edges.flatMap (goN1 ns)
theorem tokPl_pos (ns:List Bs) (x:PlP):0<(tokPl ns x).length:=by unfold tokPl;simp
theorem places_has {l:List Tok} {p:PeP} {ns:List Bs} (hns:ns=p.places.map (·.name)) (hnm:∀ w∈ns,isName w=true):∀ (xs:List PlP) (N:Nat) (pre:List Bs) (g k:Nat),xs≠[]→(∀ x∈xs,mayPl p x=true)→pre.length+xs.length≤16→(pre++xs.map (·.name)).Nodup→xs.length≤N→HasT l k (xs.flatMap (tokPl ns))→l.length=k+(xs.flatMap (tokPl ns)).length→
  ∃ gs,placesP l p.cap N pre g k= .ok (numX g xs) l.length [] gs∧gs.map (·.1)=goNX ns xs
 | [],_,_,_,_,h,_,_,_,_,_,_=>absurd rfl h
 | x::xs,0,_,_,_,_,_,_,_,h,_,_=>absurd h (by simp)
 | x::xs,N+1,pre,g,k,_,hm,h16,hnd,hN,h,hl=>by
   rw[List.length_cons] at h16 hN;have h':HasT l k (tokPl ns x++xs.flatMap (tokPl ns)):=h;have hno:¬ x.name∈pre:=fun hx=>(List.nodup_append.1 hnd).2.2 _ hx _ (by simp) rfl
   obtain⟨gs,h1,h2⟩:=place_has (g:=g) hns hnm (hm x (by simp)) (show pre.length<16 by omega) hno h';rw[List.flatMap_cons,List.length_append] at hl;unfold placesP;rw[h1];simp only[Rp.then]
   cases xs with
   | nil=>
     rw[List.flatMap_nil,List.length_nil,Nat.add_zero] at hl;rw[if_neg (by omega)];refine⟨gs,?_,?_⟩
     ·simp only[numX,List.append_nil]
      rw[hl]
     ·rw[h2];simp[goNX]
   | cons y ys=>
     have hy:=tokPl_pos ns y;rw[if_pos (by rw[hl,List.flatMap_cons,List.length_append];omega)];obtain⟨gs',h3,h4⟩:=places_has hns hnm (y::ys) N (pre++[x.name]) (g+goesL x.edges) (k+(tokPl ns x).length) (by simp) (fun z hz=>hm z (by simp[hz])) (by rw[List.length_append];simp at h16 ⊢;omega) (by simpa using hnd) (by simpa using hN) (has_app _ h').2 (by omega);refine⟨gs++gs',?_,by rw[List.map_append,h2,h4];rfl⟩;rw[goesL_num,h3];simp only[List.append_nil]
     rfl
theorem idx_nodup {ns:List Bs} (h:ns.Nodup) {i:Nat} (hi:i<ns.length):idxP ns ns[i]=i:=by
 unfold idxP;rw[if_pos (List.getElem_mem hi),List.Nodup.idxOf_getElem h]
theorem link_edges {p:PeP} {ns:List Bs} {gs:Gs} (hns:ns=p.places.map (·.name)) (hnd:ns.Nodup):∀ (es:List EdP) (g:Nat),(∀ e∈es,mayEd p e=true)→(∀ (i:Nat) (w:Bs),(es.flatMap (goN1 ns))[i]?=some w→(gs[g+i]?.getD ([],0)).1=w)→(numE g es).map (linkE ns gs)=es
 | [],_,_,_=>rfl
 | e::es,g,hm,hg=>by
   have hlen:p.places.length=ns.length:=by rw[hns,List.length_map]
   rw[numE,List.map_cons];have hgo:(goN1 ns e).length=goesP e:=by unfold goN1 goesP;split <;> rfl
   congr 1
   ·unfold linkE
    show (if e.kind=3 then renum g e else _)=e;by_cases k3:e.kind=3
    ·rw[if_pos k3];unfold renum;rw[if_pos k3]
    ·rw[if_neg k3]
     have hto:mayTo ns.length e=true:=by
      have:=hm e (by simp);unfold mayEd at this;rw[hlen] at this;by_cases k1:e.kind=1
      ·rw[if_pos k1] at this
       simp only[Bool.and_eq_true] at this;exact this.2.1
      ·rw[if_neg k1] at this
       by_cases k2:e.kind=2
       ·rw[if_pos k2] at this
        simp only[Bool.and_eq_true] at this;exact this.2.2.1
       ·rw[if_neg k2] at this
        simp only[Bool.and_eq_true] at this;exact absurd (of_decide_eq_true this.1) k3
     obtain⟨hi,hN,hT⟩:=toN_at hto;have h0:(goN1 ns e)[0]?=some (toN ns e):=by unfold goN1;rw[if_neg k3];rfl
     have:=hg 0 (toN ns e) (by
      rw[List.flatMap_cons,List.getElem?_append_left (by unfold goN1;rw[if_neg k3];simp)];exact h0)
     have hr:(renum g e).to.toNat=g+0:=by unfold renum;rw[if_neg k3];simp
     rw[hr,this,hN,idx_nodup hnd hi,hT]
     rfl
   ·refine link_edges hns hnd es (g+goesP e) (fun x hx=>hm x (by simp[hx])) fun i w hw=>?_
    have:=hg (goesP e+i) w (by rw[List.flatMap_cons,←hgo,List.getElem?_append_right (by omega),Nat.add_sub_cancel_left];exact hw);rwa [←Nat.add_assoc] at this
theorem link_places {p:PeP} {ns:List Bs} {gs:Gs} (hns:ns=p.places.map (·.name)) (hnd:ns.Nodup):∀ (xs:List PlP) (g:Nat),(∀ x∈xs,mayPl p x=true)→(∀ (i:Nat) (w:Bs),(goNX ns xs)[i]?=some w→(gs[g+i]?.getD ([],0)).1=w)→(numX g xs).map (linkX ns gs)=xs
 | [],_,_,_=>rfl
 | x::xs,g,hm,hg=>by
   have hx:=hm x (by simp);unfold mayPl at hx;simp only[Bool.and_eq_true,decide_eq_true_eq,List.all_eq_true] at hx;have hgl:=goesL_names ns x.edges;rw[numX,List.map_cons]
   congr 1
   ·unfold linkX
    show PlP.mk x.name x.echo ((numE g x.edges).map (linkE ns gs))=x
    rw[link_edges hns hnd x.edges g hx.2.2.2 fun i w hw=>hg i w (by
     have hi:i<(x.edges.flatMap (goN1 ns)).length:=(List.getElem?_eq_some_iff.1 hw).1;show ((x.edges.flatMap (goN1 ns))++goNX ns xs)[i]?=some w;rw[List.getElem?_append_left hi];exact hw)]
   ·refine link_places hns hnd xs (g+goesL x.edges) (fun y hy=>hm y (by simp[hy])) fun i w hw=>?_
    have:=hg (goesL x.edges+i) w (by
     show ((x.edges.flatMap (goN1 ns))++goNX ns xs)[goesL x.edges+i]?=some w;rw[hgl,List.getElem?_append_right (by omega),Nat.add_sub_cancel_left];exact hw)
    rwa [←Nat.add_assoc] at this
theorem numX_names:∀ (xs:List PlP) (g:Nat),(numX g xs).map (·.name)=xs.map (·.name)
 | [],_=>rfl
 | x::xs,g=>by rw[numX,List.map_cons,List.map_cons,numX_names xs]
theorem goes_in {p:PeP} {ns:List Bs} (hns:ns=p.places.map (·.name)) {e:EdP} (he:mayEd p e=true):∀ w∈goN1 ns e,w∈ns:=by
 have hlen:p.places.length=ns.length:=by rw[hns,List.length_map]
 intro w hw;unfold goN1 at hw;by_cases k3:e.kind=3
 ·rw[if_pos k3] at hw;cases hw
 ·rw[if_neg k3,List.mem_singleton] at hw
  subst hw
  have hto:mayTo ns.length e=true:=by
   unfold mayEd at he;rw[hlen] at he;by_cases k1:e.kind=1
   ·rw[if_pos k1] at he;simp only[Bool.and_eq_true] at he;exact he.2.1
   ·rw[if_neg k1] at he
    by_cases k2:e.kind=2
    ·rw[if_pos k2] at he;simp only[Bool.and_eq_true] at he;exact he.2.2.1
    ·rw[if_neg k2] at he;simp only[Bool.and_eq_true] at he;exact absurd (of_decide_eq_true he.1) k3
  obtain⟨hi,hN, -⟩:=toN_at hto;rw[hN];exact List.getElem_mem _
theorem out_has {p:PeP} {l:List Tok} (hp:mayPe p=true) (hl:noPl l=noPl (tokPe p)) (n:Nat):outPe n l=(some p,0,0):=by
 have hall:=has_all l hl;have hlen:l.length=(tokPe p).length:=by have:=congrArg List.length hl;unfold noPl at this;simpa using this
 unfold mayPe at hp;simp only[Bool.and_eq_true,decide_eq_true_eq,List.all_eq_true] at hp;obtain⟨⟨c1,c2⟩,⟨l1,l2⟩,hP,hnd⟩:=hp;obtain⟨ns,hns⟩:∃ ns,ns=p.places.map (·.name):=⟨_,rfl⟩;unfold noTwo at hnd;have hnd:=of_decide_eq_true hnd;rw[←hns] at hnd
 have hnm:∀ w∈ns,isName w=true:=by
  intro w hw;rw[hns] at hw;obtain⟨x,hx,rfl⟩:=List.mem_map.1 hw;have:=hP x hx;unfold mayPl at this;simp only[Bool.and_eq_true] at this;exact this.1
 have hE:tokPe p=[wdT wCap,nmb p.cap]++p.places.flatMap (tokPl ns):=by unfold tokPe;rw[←hns]
 rw[hE] at hall hlen;have a1:HasT l 0 (wdT wCap::nmb p.cap::p.places.flatMap (tokPl ns)):=hall;have a2:HasT l 1 (nmb p.cap::p.places.flatMap (tokPl ns)):=a1.2.2;have a3:HasT l 2 (p.places.flatMap (tokPl ns)):=a2.2.2;obtain⟨b1, -,b3, -⟩:=has_one a2;have ht:takeP l 2 1= .ok (nxp l 1) 2 [] []:=by unfold takeP;rw[b1,if_pos (show (nmb p.cap).kind=2 from rfl)]
 have b3:(nxp l 1).n=p.cap:=b3;have hne:p.places≠[]:=by intro e;rw[e] at l1;simp at l1
 have hxl:p.places.length≤l.length+1:=by
  have:∀ xs:List PlP,xs.length≤(xs.flatMap (tokPl ns)).length:=by
   intro xs
   induction xs with
   | nil=>exact Nat.le_refl _
   | cons x xs ih=>have:=tokPl_pos ns x;rw[List.flatMap_cons,List.length_append,List.length_cons];omega
  have:=this p.places;rw[hlen,List.length_append];omega
 obtain⟨gs,g1,g2⟩:=places_has (l:=l) hns hnm p.places (l.length+1) [] 0 2 hne hP (by simpa using l2) (by rw[List.nil_append,←hns];exact hnd) hxl a3 (by rw[hlen,List.length_append];rfl)
 have hA:allP l= .ok ⟨p.cap,numX 0 p.places⟩ l.length [] gs:=by
  unfold allP;rw[need_has a1];simp only[Rp.then];rw[ht];simp only[b3];rw[g1];have:decide (p.cap<1∨16<p.cap)=false:=decide_eq_false (by omega);simp only[Rp.met,this,List.nil_append,List.append_nil,Bool.false_eq_true,if_false]
 have hS:linkS ns gs=[]:=by
  unfold linkS;rw[List.filterMap_eq_nil_iff];intro x hx;have:x.1∈goNX ns p.places:=by rw[←g2];exact List.mem_map_of_mem hx
  unfold goNX at this;obtain⟨y,hy,hxy⟩:=List.mem_flatMap.1 this;obtain⟨e,he,hxe⟩:=List.mem_flatMap.1 hxy;have hy:=hP y hy;unfold mayPl at hy;simp only[Bool.and_eq_true,decide_eq_true_eq,List.all_eq_true] at hy;rw[if_pos (goes_in hns (hy.2.2.2 e he) _ hxe)]
 unfold outPe;rw[hA];simp only[numX_names,←hns,hS,List.append_nil];show (some (linkP gs ⟨p.cap,numX 0 p.places⟩),(0:Int),(0:Int))=_
 have:linkP gs ⟨p.cap,numX 0 p.places⟩=p:=by
  unfold linkP;simp only[numX_names,←hns]
  rw[link_places hns hnd p.places 0 hP fun i w hw=>by
   rw[←g2,List.getElem?_map] at hw
   cases hg:gs[i]? with
   | none=>rw[hg] at hw;cases hw
   | some y=>rw[hg] at hw;injection hw with hw;rw[Nat.zero_add,hg];exact hw]
 rw[this]
section
theorem then_okP {α β:Type} {R:Rp α} {f:α→Nat→Rp β} {y:β} {m:Nat} {gs:Gs} (h:R.then f= .ok y m [] gs):∃ x i g1 g2,R= .ok x i [] g1∧f x i= .ok y m [] g2∧gs=g1++g2:=by
 cases R with
 | bad j=>cases h
 | ok x i s1 g1=>
   simp only[Rp.then] at h
   cases hf:f x i with
   | bad j=>rw[hf] at h;cases h
   | ok y' m' s2 g2=>
     rw[hf] at h;injection h with a b c d
     have c:=List.append_eq_nil_iff.1 c;subst a b d;exact⟨x,i,g1,g2,by rw[c.1],by rw[hf,c.2],rfl⟩
theorem met_okP {α:Type} {b:Bool} {k:Nat} {e:Int} {R:Rp α} {y:α} {m:Nat} {gs:Gs} (h:Rp.met b k e R= .ok y m [] gs):b=false∧R= .ok y m [] gs:=by
 cases R with
 | bad j=>cases h
 | ok x i s g=>
   injection h with a b' c d
   have c:=List.append_eq_nil_iff.1 c;subst a b' d;refine⟨?_,by rw[c.2]⟩
   cases b with
   | false=>rfl
   | true=>cases c.1
section
variable {l:List Tok}
theorem need_ok {kd:Int} {w:Bs} {k j:Nat} {x:Unit} {s:Sf} {gs:Gs} (h:needP l kd w k= .ok x j s gs):j=k+1∧s=[]∧gs=[]∧isP l kd w k=true:=by
 unfold needP at h
 split at h
 ·rename_i c;injection h with a b c' d;exact⟨b.symm,c'.symm,d.symm,c⟩
 ·cases h
theorem take_ok {kd:Int} {k j:Nat} {t:Tok} {s:Sf} {gs:Gs} (h:takeP l kd k= .ok t j s gs):j=k+1∧s=[]∧gs=[]∧t=nxp l k∧t.kind=kd:=by
 unfold takeP at h
 split at h
 ·rename_i c;injection h with a b c' d;exact⟨b.symm,c'.symm,d.symm,a.symm,a ▸ c⟩
 ·cases h
theorem name_ok {k j:Nat} {w:Bs} {s:Sf} {gs:Gs} (h:nameP l k= .ok w j s gs):j=k+1∧s=[]∧gs=[]∧w=(nxp l k).word∧(nxp l k).kind=1∧isName w=true:=by
 unfold nameP at h
 split at h
 ·rename_i c;injection h with a b c' d;exact⟨b.symm,c'.symm,d.symm,a.symm,c.1,a ▸ c.2⟩
 ·cases h
theorem text_okP {k j:Nat} {w:Bs} {s:Sf} {gs:Gs} (h:textP l k= .ok w j s gs):j=k+1∧s=[]∧gs=[]∧(nxp l k).kind=3∧oneT (nxp l k).parts=some w:=by
 unfold textP at h
 split at h
 ·rename_i c
  split at h
  ·rename_i s' hs;injection h with a b c' d;exact⟨b.symm,c'.symm,d.symm,c,by rw[hs,a]⟩
  ·cases h
 ·cases h
theorem ok_n {k:Nat} (hl:∀ t∈l,okT t=true) (h:(nxp l k).kind=2):0≤(nxp l k).n:=by
 have hk:=nxp_lt (l:=l) (k:=k) (by omega);have ht:nxp l k=l[k]:=nxp_at (List.getElem?_eq_getElem hk);have:=hl _ (List.getElem_mem hk);rw[←ht] at this;unfold okT at this;rw[if_pos h] at this;simp only[Bool.and_eq_true,decide_eq_true_eq] at this;exact this.1.2
theorem ok_begins {k:Nat} (hl:∀ t∈l,okT t=true) (h:(nxp l k).kind=1):begins (nxp l k).word=true:=by
 have hk:=nxp_lt (l:=l) (k:=k) (by omega);have ht:nxp l k=l[k]:=nxp_at (List.getElem?_eq_getElem hk);have:=hl _ (List.getElem_mem hk);rw[←ht] at this;unfold okT mayW at this;rw[if_neg (by omega),if_neg (by omega),if_pos h] at this;simp only[Bool.and_eq_true] at this;have:=this.1.1
 cases hw:(nxp l k).word with
 | nil=>rw[hw] at this;cases this
 | cons c r=>
   rw[hw] at this;unfold isWordL at this;simp only[Bool.and_eq_true] at this;have:=this.1.1;unfold isLow at this;exact decide_eq_true (of_decide_eq_true this).1
theorem small_ok {k j:Nat} {n:Int} {gs:Gs} (hl:∀ t∈l,okT t=true) (h:smlP l k= .ok n j [] gs):0≤n∧n≤9∧gs=[]∧j=k+1∧n=(nxp l k).n∧(nxp l k).kind=2:=by
 unfold smlP at h;obtain⟨t,i,g1,g2,h1,h2,rfl⟩:=then_okP h;obtain⟨rfl, -,rfl,ht,hk⟩:=take_ok h1;obtain⟨hb,h3⟩:=met_okP h2;have hb:=of_decide_eq_false hb;injection h3 with a b c d
 rw[if_neg hb] at a;subst a b d;rw[ht] at hk hb;exact⟨by rw[ht];exact ok_n hl hk,by rw[ht];omega,rfl,rfl,by rw[ht],hk⟩
def okDl (d:Int × Int):Prop:=(0≤d.1∧d.1≤9)∧(d.2= -1∨(d.1≤d.2∧d.2≤9))
theorem delay_ok {k j:Nat} {d:Int × Int} {gs:Gs} (hl:∀ t∈l,okT t=true) (h:delayP l k= .ok d j [] gs):okDl d∧gs=[]:=by
 unfold delayP at h;obtain⟨_,i,g1,g2,h1,h2,rfl⟩:=then_okP h;obtain⟨-, -,rfl, -⟩:=need_ok h1;obtain⟨lo,i2,g3,g4,h3,h4,rfl⟩:=then_okP h2;obtain⟨l0,l9,rfl, -⟩:=small_ok hl h3
 split at h4
 ·injection h4 with a b c d'
  subst a d';exact⟨⟨⟨l0,l9⟩,.inl rfl⟩,rfl⟩
 ·obtain⟨hi,i3,g5,g6,h5,h6,rfl⟩:=then_okP h4
  obtain⟨m0,m9,rfl, -,hn, -⟩:=small_ok hl h5;obtain⟨hb,h7⟩:=met_okP h6;have hb:=of_decide_eq_false hb;injection h7 with a b c d'
  subst a d';exact⟨⟨⟨l0,l9⟩,.inr ⟨by show lo≤hi;omega,m9⟩⟩,rfl⟩
theorem to_ok {g k j:Nat} {t:Int} {gs:Gs} (h:toP l g k= .ok t j [] gs):t=g∧gs.length=1:=by
 unfold toP at h;obtain⟨_,i,g1,g2,h1,h2,rfl⟩:=then_okP h;obtain⟨-, -,rfl, -⟩:=need_ok h1;obtain⟨w,i2,g3,g4,h3,h4,rfl⟩:=then_okP h2;obtain⟨-, -,rfl, -⟩:=name_ok h3;injection h4 with a b c d
 subst a d;exact⟨rfl,rfl⟩
def EdOk (cap:Int) (M:Nat) (e:EdP):Prop:=
 (e.kind=1∧okDl (e.lo,e.hi)∧(∃ t:Nat,e.to=t∧t<M)∧e.text≠[]∧(e.text.length:Int)≤cap)∨
 (e.kind=2∧e.lo=0∧e.hi=0∧(∃ t:Nat,e.to=t∧t<M)∧globOk e.text=true)∨
 (e.kind=3∧okDl (e.lo,e.hi)∧e.to=0∧e.text=[])
theorem EdOk.le {cap:Int} {M M':Nat} {e:EdP} (h:EdOk cap M e) (hM:M≤M'):EdOk cap M' e:=by
 rcases h with ⟨a,b,⟨t,c,d⟩,e⟩ | ⟨a,b,c,⟨t,d,e⟩,f⟩ | h
 ·exact .inl ⟨a,b,⟨t,c,by omega⟩,e⟩
 ·exact .inr (.inl ⟨a,b,c,⟨t,d,by omega⟩,f⟩)
 ·exact .inr (.inr h)
theorem edge_ok {cap:Int} {many g k j:Nat} {e:EdP} {gs:Gs} (hl:∀ t∈l,okT t=true) (h:edgeP l cap many g k= .ok e j [] gs):many<8∧EdOk cap (g+gs.length) e∧gs.length=goesP e:=by
 unfold edgeP at h;obtain⟨hb,h⟩:=met_okP h;refine⟨by have:=of_decide_eq_false hb;omega,?_⟩
 split at h
 ·obtain⟨s,i,g1,g2,h1,h2,rfl⟩:=then_okP h
  obtain⟨-, -,rfl, -⟩:=text_okP h1;obtain⟨hs,h2⟩:=met_okP h2;have hs:=of_decide_eq_false hs;obtain⟨d,i2,g3,g4,h3,h4,rfl⟩:=then_okP h2;obtain⟨hd,rfl⟩:=delay_ok hl h3;obtain⟨t,i3,g5,g6,h5,h6,rfl⟩:=then_okP h4;obtain⟨rfl,hg⟩:=to_ok h5;injection h6 with a b c d'
  subst a d';refine⟨.inl ⟨rfl,hd,⟨g,rfl,by simp[hg]⟩,fun q=>hs (.inl q),?_⟩,by simp[hg,goesP]⟩;show (s.length:Int)≤cap;have:¬ cap<s.length:=fun q=>hs (.inr q)
  omega
 ·split at h
  ·obtain⟨s,i,g1,g2,h1,h2,rfl⟩:=then_okP h
   obtain⟨-, -,rfl, -⟩:=text_okP h1;obtain⟨hs,h2⟩:=met_okP h2;obtain⟨t,i3,g5,g6,h5,h6,rfl⟩:=then_okP h2;obtain⟨rfl,hg⟩:=to_ok h5;injection h6 with a b c d'
   subst a d';exact⟨.inr (.inl ⟨rfl,rfl,rfl,⟨g,rfl,by simp[hg]⟩,by simpa using hs⟩),by simp[hg,goesP]⟩
  ·obtain⟨_,i,g1,g2,h1,h2,rfl⟩:=then_okP h
   obtain⟨-, -,rfl, -⟩:=need_ok h1;obtain⟨d,i2,g3,g4,h3,h4,rfl⟩:=then_okP h2;obtain⟨hd,rfl⟩:=delay_ok hl h3;injection h4 with a b c d'
   subst a d';exact⟨.inr (.inr ⟨rfl,hd,rfl,rfl⟩),rfl⟩
theorem edges_ok {cap:Int} (hl:∀ t∈l,okT t=true):∀ (N many g k j:Nat) (es:List EdP) (gs:Gs),edgesP l cap N many g k= .ok es j [] gs→(∀ e∈es,EdOk cap (g+gs.length) e)∧(many≤8→many+es.length≤8)∧gs.length=goesL es
 | 0,_,_,_,_,_,_,h=>by cases h
 | N+1,many,g,k,j,es,gs,h=>by
   unfold edgesP at h
   split at h
   ·injection h with a b c d
    subst a d;exact⟨(by simp),fun h=>h,rfl⟩
   ·obtain⟨e,i,g1,g2,h1,h2,rfl⟩:=then_okP h
    obtain⟨m8,he,hg⟩:=edge_ok hl h1;obtain⟨es',i2,g3,g4,h3,h4,rfl⟩:=then_okP h2;obtain⟨p1,p2,p3⟩:=edges_ok hl N _ _ _ _ _ _ h3;injection h4 with a b c d
    subst a d;simp only[List.append_nil,List.length_append];refine⟨fun x hx=>?_,fun _=>?_,?_⟩
    ·rcases List.mem_cons.1 hx with rfl | hx
     ·exact he.le (by omega)
     ·exact(p1 x hx).le (by omega)
    ·rw[List.length_cons];have:=p2 (by omega);omega
    ·rw[goesL_cons];omega
def PlOk (cap:Int) (M:Nat) (x:PlP):Prop:=isName x.name=true∧begins x.name=true∧x.edges.length≤8∧∀ e∈x.edges,EdOk cap M e
theorem place_ok {cap:Int} {ns:List Bs} {g k j:Nat} {x:PlP} {gs:Gs} (hl:∀ t∈l,okT t=true) (h:placeP l cap ns g k= .ok x j [] gs):ns.length<16∧¬ x.name∈ns∧PlOk cap (g+gs.length) x∧gs.length=goesL x.edges:=by
 unfold placeP at h;obtain⟨_,i,g1,g2,h1,h2,rfl⟩:=then_okP h;obtain⟨-, -,rfl, -⟩:=need_ok h1;obtain⟨hb,h2⟩:=met_okP h2;have hb:=of_decide_eq_false hb;obtain⟨w,i2,g3,g4,h3,h4,rfl⟩:=then_okP h2;obtain⟨-, -,rfl,hw,hk,hn⟩:=name_ok h3;obtain⟨hc,h4⟩:=met_okP h4;obtain⟨b,i3,g5,g6,h5,h6,rfl⟩:=then_okP h4
 have:g5=[]:=by
  unfold echoP at h5
  split at h5 <;> ·injection h5 with a b c d;exact d.symm
 subst this;obtain⟨_,i4,g7,g8,h7,h8,rfl⟩:=then_okP h6;obtain⟨-, -,rfl, -⟩:=need_ok h7;obtain⟨es,i5,g9,g10,h9,h10,rfl⟩:=then_okP h8;obtain⟨p1,p2,p3⟩:=edges_ok hl _ _ _ _ _ _ _ h9;obtain⟨_,i6,g11,g12,h11,h12,rfl⟩:=then_okP h10;obtain⟨-, -,rfl, -⟩:=need_ok h11;injection h12 with a b' c d
 subst a d;simp only[List.append_nil,List.nil_append];refine⟨by omega,fun q=>?_,⟨hn,by rw[hw];exact ok_begins hl hk,by simpa using p2 (by omega),p1⟩,p3⟩;rw[List.contains_iff_mem.2 q] at hc
 cases hc
theorem places_ok {cap:Int} (hl:∀ t∈l,okT t=true):∀ (N:Nat) (ns:List Bs) (g k j:Nat) (xs:List PlP) (gs:Gs),placesP l cap N ns g k= .ok xs j [] gs→ns.Nodup→(∀ x∈xs,PlOk cap (g+gs.length) x)∧xs≠[]∧ns.length+xs.length≤16∧(ns++xs.map (·.name)).Nodup
 | 0,_,_,_,_,_,_,h,_=>by cases h
 | N+1,ns,g,k,j,xs,gs,h,hnd=>by
   unfold placesP at h;obtain⟨x,i,g1,g2,h1,h2,rfl⟩:=then_okP h;obtain⟨n16,hno,hx,hg⟩:=place_ok hl h1
   have hnd2:(ns++[x.name]).Nodup:=List.nodup_append.2 ⟨hnd,by simp,fun a ha b hb=>by
    rw[List.mem_singleton] at hb;subst hb;exact fun e=>hno (e ▸ ha)⟩
   split at h2
   ·obtain⟨xs',i2,g3,g4,h3,h4,rfl⟩:=then_okP h2
    obtain⟨p1,p2,p3,p4⟩:=places_ok hl N _ _ _ _ _ _ h3 hnd2;injection h4 with a b c d
    subst a d;rw[List.length_append,List.length_singleton] at p3;simp only[List.append_nil,List.length_append];refine⟨fun y hy=>?_,by simp,by rw[List.length_cons];omega,by simpa using p4⟩
    rcases List.mem_cons.1 hy with rfl | hy
    ·exact⟨hx.1,hx.2.1,hx.2.2.1,fun e he=>(hx.2.2.2 e he).le (by omega)⟩
    ·have:=p1 y hy
     exact⟨this.1,this.2.1,this.2.2.1,fun e he=>(this.2.2.2 e he).le (by omega)⟩
   ·injection h2 with a b c d
    subst a d;simp only[List.append_nil];refine⟨fun y hy=>?_,by simp,by simp;omega,by simpa using hnd2⟩;rw[List.mem_singleton] at hy;subst hy;exact hx
end
theorem softP_some (l:List Tok):∀ (sf:Sf) (y:Int × Int),softsP l (some y) sf≠none
 | [],y=>by intro h;cases h
 | x::sf,y=>by
   unfold softsP;rw[List.foldl_cons];have:∃ z,softP l (some y) x=some z:=by unfold softP;simp only;split <;> exact⟨_,rfl⟩
   obtain⟨z,hz⟩:=this;rw[hz];exact softP_some l sf z
theorem softs_none {l:List Tok} {sf:Sf} (h:softsP l none sf=none):sf=[]:=by
 cases sf with
 | nil=>rfl
 | cons x sf=>
   have:softsP l none (x::sf)=softsP l (some ((nxp l x.1).pl,x.2)) sf:=rfl;rw[this] at h;exact absurd h (softP_some l sf _)
theorem idx_ltP {ns:List Bs} {w:Bs} (h:w∈ns):0≤idxP ns w∧idxP ns w<ns.length:=by
 unfold idxP;rw[if_pos h];have:=List.idxOf_lt_length_of_mem h;omega
theorem out_may {l:List Tok} {n:Nat} {p:PeP} {a b:Int} (hl:∀ t∈l,okT t=true) (h:outPe n l=(some p,a,b)):mayPe p=true:=by
 unfold outPe at h
 cases hA:allP l with
 | bad j=>rw[hA] at h;cases h
 | ok p0 m sf gs=>
   rw[hA] at h;simp only at h
   cases hs:softsP l none (sf++linkS (p0.places.map (·.name)) gs) with
   | some y=>rw[hs] at h;cases h
   | none=>
     rw[hs] at h;injection h with h _
     injection h with h
     obtain⟨rfl,hS⟩:=List.append_eq_nil_iff.1 (softs_none hs);unfold allP at hA;obtain⟨_,i,g1,g2,h1,h2,rfl⟩:=then_okP hA;obtain⟨-, -,rfl, -⟩:=need_ok h1;obtain⟨t,i2,g3,g4,h3,h4,rfl⟩:=then_okP h2;obtain⟨-, -,rfl, -, -⟩:=take_ok h3;obtain⟨hb,h4⟩:=met_okP h4;have hb:=of_decide_eq_false hb;obtain⟨xs,i3,g5,g6,h5,h6,rfl⟩:=then_okP h4;obtain⟨p1,p2,p3,p4⟩:=places_ok hl _ _ _ _ _ _ _ h5 List.nodup_nil;injection h6 with a' b' c' d'
     subst a' d';simp only[List.append_nil,List.nil_append,Nat.zero_add,List.length_nil] at *;subst h;obtain⟨ns,hns⟩:∃ ns,ns=xs.map (·.name):=⟨_,rfl⟩;have hnames:(xs.map (linkX (xs.map (·.name)) g5)).map (·.name)=ns:=by rw[hns,List.map_map];rfl
     have hin:∀ (i:Nat),i<g5.length→(g5[i]?.getD ([],0)).1∈ns:=by
      intro i hi;rw[List.getElem?_eq_getElem hi];show (g5[i]).1∈ns;unfold linkS at hS;have:=List.filterMap_eq_nil_iff.1 hS g5[i] (List.getElem_mem hi);rw[←hns] at this;by_cases c:g5[i].1∈ns
      ·exact c
      ·rw[if_neg c] at this;cases this
     unfold mayPe;simp only[Bool.and_eq_true,decide_eq_true_eq,List.all_eq_true];have hlen:(linkP g5 ⟨t.n,xs⟩).places.length=xs.length:=by unfold linkP;rw[List.length_map]
     refine⟨⟨by show 1≤t.n;omega,by show t.n≤16;omega⟩,⟨by rw[hlen];exact List.length_pos_iff.2 p2,by rw[hlen];exact p3⟩,?_,?_⟩
     ·intro y hy
      unfold linkP at hy;obtain⟨x,hx,rfl⟩:=List.mem_map.1 hy;obtain⟨q1,q2,q3,q4⟩:=p1 x hx;unfold mayPl;simp only[Bool.and_eq_true,decide_eq_true_eq,List.all_eq_true];refine⟨q1,q2,by unfold linkX;rw[List.length_map];exact q3,?_⟩;intro e' he';unfold linkX at he';obtain⟨e,he,rfl⟩:=List.mem_map.1 he'
      have hto:∀ t':Nat,e.to=t'→t'<g5.length→mayTo xs.length ⟨e.kind,e.text,e.lo,e.hi,idxP ns (g5[e.to.toNat]?.getD ([],0)).1⟩=true:=by
       intro t' ht' hlt;have:=idx_ltP (hin t' hlt);rw[ht'];unfold mayTo;have hl2:ns.length=xs.length:=by rw[hns,List.length_map]
       exact decide_eq_true ⟨this.1,by rw[←hl2];exact this.2⟩
      show mayEd (linkP g5 ⟨t.n,xs⟩) (linkE (xs.map (·.name)) g5 e)=true;unfold mayEd;rw[hlen,←hns]
      rcases q4 e he with ⟨k1,hd,⟨t',ht',hlt⟩,hne,hle⟩ | ⟨k2,hlo,hhi,⟨t',ht',hlt⟩,hg⟩ | ⟨k3,hd,h0,hne⟩
      ·have hE:linkE ns g5 e=⟨e.kind,e.text,e.lo,e.hi,idxP ns (g5[e.to.toNat]?.getD ([],0)).1⟩:=by unfold linkE;rw[if_neg (by omega)]
       rw[hE,if_pos k1];simp only[Bool.and_eq_true,decide_eq_true_eq];refine⟨?_,hto t' ht' hlt,List.length_pos_iff.2 hne,hle⟩;unfold mayTimes;simp only[Bool.and_eq_true,Bool.or_eq_true,decide_eq_true_eq];exact hd
      ·have hE:linkE ns g5 e=⟨e.kind,e.text,e.lo,e.hi,idxP ns (g5[e.to.toNat]?.getD ([],0)).1⟩:=by unfold linkE;rw[if_neg (by omega)]
       rw[hE,if_neg (show ¬ e.kind=1 by omega),if_pos k2];simp only[Bool.and_eq_true,decide_eq_true_eq];exact⟨hlo,hhi,hto t' ht' hlt,hg⟩
      ·have hE:linkE ns g5 e=e:=by unfold linkE;rw[if_pos k3]
       rw[hE,if_neg (show ¬ e.kind=1 by omega),if_neg (show ¬ e.kind=2 by omega)];simp only[Bool.and_eq_true,decide_eq_true_eq];refine⟨k3,?_,h0,hne⟩;unfold mayTimes;simp only[Bool.and_eq_true,Bool.or_eq_true,decide_eq_true_eq];exact hd
     ·unfold noTwo
      refine decide_eq_true ?_;show ((xs.map (linkX (xs.map (·.name)) g5)).map (·.name)).Nodup;rw[hnames,hns];exact p4
end
def okTn (t:Tok):Prop:=okT t=true∧t.n≤9223372036854775807
theorem okN_wd {w:Bs} (h:isWordL w=true):okTn (wdT w):=⟨okT_word (by decide) (by decide) h,by show (0:Int)≤_;decide⟩
theorem okN_name {w:Bs} (h:isName w=true) (hb:begins w=true):okTn (wdT w):=by
 refine okN_wd ?_
 cases w with
 | nil=>cases hb
 | cons c r=>
   unfold begins at hb;have hb:=of_decide_eq_true hb;obtain⟨-,ha⟩:=name_all h;unfold isName at h;rw[Bool.and_eq_true] at h;have h:=of_decide_eq_true h.2;rw[nameLen_cons] at h;by_cases hd:isDig c=true
   ·have:=(of_decide_eq_true hd).2;omega
   ·rw[if_neg hd] at h
    by_cases hc:isLow c=true
    ·rw[if_pos hc,List.length_cons] at h
     have h7:=(tk_le 7 r).2;rw[List.all_cons,Bool.and_eq_true] at ha;unfold isWordL;simp only[Bool.and_eq_true,decide_eq_true_eq];exact⟨⟨hc,ha.2⟩,by omega⟩
    ·rw[if_neg hc,List.length_cons] at h;omega
theorem okN_num {n:Int} (h0:0≤n) (h:n≤16):okTn (nmb n):=by
 refine⟨?_,by show n≤_;omega⟩;unfold okT nmb;simp[h0]
theorem okN_txt (s:Bs):okTn (txt s):=by
 refine⟨?_,by show (0:Int)≤_;decide⟩;unfold okT txt;by_cases hs:s=[]
 ·subst hs;rfl
 ·rw[if_neg hs]
  simp[may,okP,hs]
theorem okN_sg {w:Bs} (h:isSignL w=true):okTn (sgn w):=⟨okT_word (by decide) (by decide) h,by show (0:Int)≤_;decide⟩
theorem okN_dl {e:EdP} (h:mayTimes e=true):∀ t∈tokDl e,okTn t:=by
 unfold mayTimes at h;simp only[Bool.and_eq_true,Bool.or_eq_true,decide_eq_true_eq] at h;obtain⟨⟨h0,h9⟩,hh⟩:=h;intro t ht;unfold tokDl at ht;simp only[List.mem_cons,List.not_mem_nil,or_false] at ht
 rcases ht with rfl | rfl | rfl
 ·exact okN_wd (by decide)
 ·exact okN_num h0 (by omega)
 ·split
  ·exact okN_wd (by decide)
  ·exact okN_num (by omega) (by omega)
theorem okN_ed {p:PeP} {ns:List Bs} (hns:ns=p.places.map (·.name)) (hnm:∀ w∈ns,okTn (wdT w)) {e:EdP} (he:mayEd p e=true):∀ t∈tokEd ns e,okTn t:=by
 have hgo:¬ e.kind=3→okTn (wdT (toN ns e)):=fun k3=>hnm _ (goes_in hns he _ (by unfold goN1;rw[if_neg k3];simp))
 intro t ht;unfold tokEd at ht;unfold mayEd at he;by_cases k1:e.kind=1
 ·rw[if_pos k1] at ht he
  simp only[Bool.and_eq_true] at he;simp only[List.mem_append,List.mem_cons,List.not_mem_nil,or_false] at ht
  rcases ht with (rfl | rfl) | ht | rfl | rfl
  ·exact okN_wd (by decide)
  ·exact okN_txt _
  ·exact okN_dl he.1 t ht
  ·exact okN_wd (by decide)
  ·exact hgo (by omega)
 ·rw[if_neg k1] at ht he
  by_cases k2:e.kind=2
  ·rw[if_pos k2] at ht he
   simp only[List.mem_append,List.mem_cons,List.not_mem_nil,or_false] at ht
   rcases ht with (rfl | rfl) | rfl | rfl
   ·exact okN_wd (by decide)
   ·exact okN_txt _
   ·exact okN_wd (by decide)
   ·exact hgo (by omega)
  ·rw[if_neg k2] at ht he
   simp only[Bool.and_eq_true] at he;simp only[List.mem_append,List.mem_cons,List.not_mem_nil,or_false] at ht
   rcases ht with rfl | ht
   ·exact okN_wd (by decide)
   ·exact okN_dl he.2.1 t ht
theorem okN_pl {p:PeP} {ns:List Bs} (hns:ns=p.places.map (·.name)) (hnm:∀ w∈ns,okTn (wdT w)) {x:PlP} (hx:mayPl p x=true):∀ t∈tokPl ns x,okTn t:=by
 unfold mayPl at hx;simp only[Bool.and_eq_true,decide_eq_true_eq,List.all_eq_true] at hx;obtain⟨n1,n2, -,nE⟩:=hx;intro t ht;unfold tokPl at ht;simp only[List.mem_append,List.mem_cons,List.not_mem_nil,or_false] at ht
 rcases ht with (rfl | rfl) | ht | rfl | ht | rfl
 ·exact okN_wd (by decide)
 ·exact okN_name n1 n2
 ·split at ht
  ·rw[List.mem_singleton] at ht;subst ht;exact okN_wd (by decide)
  ·cases ht
 ·exact okN_sg (by decide)
 ·obtain⟨e,he,hte⟩:=List.mem_flatMap.1 ht
  exact okN_ed hns hnm (nE e he) t hte
 ·exact okN_sg (by decide)
theorem okN_pe {p:PeP} (hp:mayPe p=true):∀ t∈tokPe p,okTn t:=by
 unfold mayPe at hp;simp only[Bool.and_eq_true,decide_eq_true_eq,List.all_eq_true] at hp;obtain⟨⟨c1,c2⟩, -,hP, -⟩:=hp
 have hnm:∀ w∈p.places.map (·.name),okTn (wdT w):=by
  intro w hw;obtain⟨x,hx,rfl⟩:=List.mem_map.1 hw;have:=hP x hx;unfold mayPl at this;simp only[Bool.and_eq_true] at this;exact okN_name this.1 this.2.1
 intro t ht;unfold tokPe at ht;simp only[List.mem_append,List.mem_cons,List.not_mem_nil,or_false] at ht
 rcases ht with (rfl | rfl) | ht
 ·exact okN_wd (by decide)
 ·exact okN_num (by omega) c2
 ·obtain⟨x,hx,htx⟩:=List.mem_flatMap.1 ht
  exact okN_pl rfl hnm (hP x hx) t htx
def textPe (p:PeP):Bs:=joinT (tokPe p)
def errPe (p:PeP):Int:=if mayPe p then (if 1000<(textPe p).length then 2 else 0) else 5
def outText (p:PeP):Bs:=if mayPe p∧¬ 1000<(textPe p).length then textPe p else []
theorem print_parse {p:PeP} (h:errPe p=0):parsePe (outText p)=(some p,0,0):=by
 unfold errPe at h;by_cases hp:mayPe p=true
 ·rw[if_pos hp] at h
  by_cases hl:1000<(textPe p).length
  ·rw[if_pos hl] at h;cases h
  ·obtain⟨out,h1,h2⟩:=scan_join (tokPe p) (okN_pe hp) (by show (textPe p).length≤2000;omega)
   unfold outText;rw[if_pos ⟨hp,hl⟩];unfold parsePe;rw[if_neg hl];unfold textPe;rw[h1];exact out_has hp h2 _
 ·rw[if_neg hp] at h;cases h
theorem parse_mayPe {s:Bs} {p:PeP} {a b:Int} (h:parsePe s=(some p,a,b)):mayPe p=true:=by
 unfold parsePe at h
 split at h
 ·cases h
 ·rcases scan_cases s with ⟨q,e,h1, -⟩ | ⟨out,h1,h2, -⟩
  ·rw[h1] at h;cases h
  ·rw[h1] at h
   exact out_may (fun t ht=>(h2 t ht).ok) h
def eqEd (a b:EdP):Bool:=decide (a.kind=b.kind) && (decide (a.text=b.text) && (decide (a.lo=b.lo) && (decide (a.hi=b.hi) && decide (a.to=b.to))))
def eqAll {α:Type} (f:α→α→Bool):List α→List α→Bool
 | [],[]=>true
 | a::l,b::m=>f a b && eqAll f l m
 | _,_=>false
def eqPl (a b:PlP):Bool:=decide (a.name=b.name) && (decide (a.echo=b.echo) && eqAll eqEd a.edges b.edges)
def eqPe (a b:PeP):Bool:=decide (a.cap=b.cap) && eqAll eqPl a.places b.places
theorem eqAll_self {α:Type} {f:α→α→Bool} (h:∀ a,f a a=true):∀ l:List α,eqAll f l l=true
 | []=>rfl
 | a::l=>by unfold eqAll;rw[h a,eqAll_self h l];rfl
theorem eqEd_self (a:EdP):eqEd a a=true:=by simp[eqEd]
theorem eqPl_self (a:PlP):eqPl a a=true:=by simp[eqPl,eqAll_self eqEd_self]
theorem eqPe_self (a:PeP):eqPe a a=true:=by simp[eqPe,eqAll_self eqPl_self]
section
def NeS (s:Sf):Prop:=∀ x∈s,x.2≠0
def NeR {α:Type} (R:Rp α):Prop:=∀ y m s gs,R= .ok y m s gs→NeS s
theorem neS_nil:NeS []:=fun x hx=>by cases hx
theorem neS_app {a b:Sf} (ha:NeS a) (hb:NeS b):NeS (a++b):=fun x hx=>(List.mem_append.1 hx).elim (ha x) (hb x)
theorem neR_ok {α:Type} (x:α) (j:Nat) (gs:Gs):NeR (.ok x j [] gs):=fun y m s g h=>by injection h with _ _ h _;rw[←h];exact neS_nil
theorem neR_bad {α:Type} (j:Nat):NeR (.bad j:Rp α):=fun y m s g h=>by cases h
theorem neR_then {α β:Type} {R:Rp α} {f:α→Nat→Rp β} (h1:NeR R) (h2:∀ x i,NeR (f x i)):NeR (R.then f):=by
 intro y m s gs h
 cases R with
 | bad j=>cases h
 | ok x i s1 g1=>
   unfold Rp.then at h
   simp only at h
   cases hf:f x i with
   | bad j=>rw[hf] at h;cases h
   | ok z m' s2 g2=>
     rw[hf] at h;injection h with _ _ h3 _
     rw[←h3];exact neS_app (h1 x i s1 g1 rfl) (h2 x i z m' s2 g2 hf)
theorem neR_met {α:Type} {b:Bool} {k:Nat} {e:Int} {R:Rp α} (he:e≠0) (h1:NeR R):NeR (Rp.met b k e R):=by
 intro y m s gs h
 cases R with
 | bad j=>cases h
 | ok x i s1 g1=>
   injection h with _ _ h3 _
   rw[←h3];refine neS_app ?_ (h1 x i s1 g1 rfl)
   cases b with
   | true=>intro z hz;simp at hz;rw[hz];exact he
   | false=>exact neS_nil
section
variable (l:List Tok) (cap:Int)
theorem neR_need (kd:Int) (w:Bs) (k:Nat):NeR (needP l kd w k):=by unfold needP;split;exact neR_ok _ _ _;exact neR_bad _
theorem neR_take (kd:Int) (k:Nat):NeR (takeP l kd k):=by unfold takeP;split;exact neR_ok _ _ _;exact neR_bad _
theorem neR_name (k:Nat):NeR (nameP l k):=by unfold nameP;split;exact neR_ok _ _ _;exact neR_bad _
theorem neR_text (k:Nat):NeR (textP l k):=by
 unfold textP
 split
 ·split
  ·exact neR_ok _ _ _
  ·exact neR_bad _
 ·exact neR_bad _
theorem neR_small (k:Nat):NeR (smlP l k):=neR_then (neR_take l 2 k) fun _ _=>neR_met (by decide) (neR_ok _ _ _)
theorem neR_delay (k:Nat):NeR (delayP l k):=neR_then (neR_need l 1 wAfter k) fun _ i=>neR_then (neR_small l i) fun _ j=>by
 split
 ·exact neR_ok _ _ _
 ·exact neR_then (neR_small l j) fun _ _=>neR_met (by decide) (neR_ok _ _ _)
theorem neR_to (g k:Nat):NeR (toP l g k):=neR_then (neR_need l 1 wGoto k) fun _ i=>neR_then (neR_name l i) fun _ _=>neR_ok _ _ _
theorem neR_edge (many g k:Nat):NeR (edgeP l cap many g k):=by
 unfold edgeP;refine neR_met (by decide) ?_
 split
 ·exact neR_then (neR_text l _) fun _ _=>neR_met (by decide) (neR_then (neR_delay l _) fun _ _=>neR_then (neR_to l _ _) fun _ _=>neR_ok _ _ _)
 ·split
  ·exact neR_then (neR_text l _) fun _ _=>neR_met (by decide) (neR_then (neR_to l _ _) fun _ _=>neR_ok _ _ _)
  ·exact neR_then (neR_need l _ _ _) fun _ _=>neR_then (neR_delay l _) fun _ _=>neR_ok _ _ _
theorem neR_edges:∀ N many g k,NeR (edgesP l cap N many g k)
 | 0,_,_,_=>neR_bad _
 | N+1,many,g,k=>by
   unfold edgesP
   split
   ·exact neR_ok _ _ _
   ·exact neR_then (neR_edge l cap _ _ _) fun _ _=>neR_then (neR_edges N _ _ _) fun _ _=>neR_ok _ _ _
theorem neR_echo (k:Nat):NeR (echoP l k):=by unfold echoP;split;exact neR_ok _ _ _;exact neR_ok _ _ _
theorem neR_place (ns:List Bs) (g k:Nat):NeR (placeP l cap ns g k):=neR_then (neR_need l _ _ _) fun _ _=>neR_met (by decide) (neR_then (neR_name l _) fun _ _=>neR_met (by decide) (neR_then (neR_echo l _) fun _ _=>neR_then (neR_need l _ _ _) fun _ _=>neR_then (neR_edges l cap _ _ _ _) fun _ _=>neR_then (neR_need l _ _ _) fun _ _=>neR_ok _ _ _))
theorem neR_places:∀ N ns g k,NeR (placesP l cap N ns g k)
 | 0,_,_,_=>neR_bad _
 | N+1,ns,g,k=>neR_then (neR_place l cap ns g k) fun x i=>by
   split
   ·exact neR_then (neR_places N _ _ _) fun _ _=>neR_ok _ _ _
   ·exact neR_ok _ _ _
theorem neR_all:NeR (allP l):=neR_then (neR_need l _ _ _) fun _ _=>neR_then (neR_take l _ _) fun _ _=>neR_met (by decide) (neR_then (neR_places l _ _ _ _ _) fun _ _=>neR_ok _ _ _)
theorem softs_ne:∀ (sf:Sf) (b:Option (Int × Int)),NeS sf→(∀ y,b=some y→y.2≠0)→∀ y,softsP l b sf=some y→y.2≠0
 | [],_,_,hb,y,h=>hb y h
 | x::sf,b,hs,hb,y,h=>by
   refine softs_ne sf (softP l b x) (fun z hz=>hs z (by simp[hz])) (fun z hz=>?_) y h;unfold softP at hz
   split at hz
   ·injection hz with hz;rw[←hz];exact hs x (by simp)
   ·rename_i y0
    split at hz
    ·injection hz with hz;rw[←hz];exact hs x (by simp)
    ·injection hz with hz;rw[←hz];exact hb y0 rfl
end
theorem linkS_ne (ns:List Bs) (gs:Gs):NeS (linkS ns gs):=by
 intro x hx;unfold linkS at hx;obtain⟨y, -,hy⟩:=List.mem_filterMap.1 hx
 split at hy
 ·cases hy
 ·injection hy with hy;rw[←hy];show (6:Int)≠0;decide
theorem parse_none {s:Bs} {a b:Int} (h:parsePe s=(none,a,b)):b≠0:=by
 unfold parsePe at h
 split at h
 ·injection h with _ h;injection h with _ h;rw[←h];decide
 ·rcases scan_cases s with ⟨q,e,h1,he, -⟩ | ⟨out,h1, -⟩
  ·rw[h1] at h
   injection h with _ h
   injection h with _ h
   rw[←h]
   rcases he with e1 | e1 | e1 <;> (rw[e1];decide)
  ·rw[h1] at h
   have h:outPe s.length out=(none,a,b):=h;unfold outPe at h
   cases hA:allP out with
   | bad j=>rw[hA] at h;injection h with _ h;injection h with _ h;rw[←h];decide
   | ok p j sf gs=>
     rw[hA] at h;simp only at h
     cases hs:softsP out none (sf++linkS (p.places.map (·.name)) gs) with
     | none=>rw[hs] at h;injection h with h _;cases h
     | some y=>
       rw[hs] at h;injection h with _ h
       injection h with _ h
       rw[←h];exact softs_ne out _ none (neS_app (neR_all out _ _ _ _ hA) (linkS_ne _ _)) (fun z hz=>by cases hz) y hs
theorem parse_some {s:Bs} {p:PeP} {a b:Int} (h:parsePe s=(some p,a,b)):a=0∧b=0:=by
 unfold parsePe at h
 split at h
 ·cases h
 ·rcases scan_cases s with ⟨q,e,h1, -⟩ | ⟨out,h1, -⟩
  ·rw[h1] at h;cases h
  ·rw[h1] at h
   have h:outPe s.length out=(some p,a,b):=h;unfold outPe at h
   split at h
   ·cases h
   ·split at h
    ·cases h
    ·injection h with _ h;injection h with h1 h2;exact⟨h1.symm,h2.symm⟩
end
end Go.Proofs.YtdobinjbejagcaaGreatDoor
