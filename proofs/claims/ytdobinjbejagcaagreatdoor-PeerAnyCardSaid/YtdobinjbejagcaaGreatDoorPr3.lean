import Derived.Test.YtdobinjbejagcaaGreatDoorPe6
namespace Go.Proofs.YtdobinjbejagcaaGreatDoor
open Go Go.RowKit
def IncP (l:List Tok):Prop:=l.Pairwise fun a b=>a.pl<b.pl
theorem goT_inc (s:Bs) (k:Nat) (acc:List Tok):∀ out,goT s k acc=(some out,0,0)→IncP acc→(∀ t∈acc,t.pl<k)→IncP out:=by
 refine goT_all (s:=s) (P:=fun k acc=>∀ out,goT s k acc=(some out,0,0)→IncP acc→(∀ t∈acc,t.pl<k)→IncP out) ?_ ?_ ?_ k acc
 ·intro k acc h out ho ha _
  rw[goT_end acc h] at ho;injection ho with ho _
  injection ho with ho
  subst ho;exact ha
 ·intro k acc q e h h1 out ho _ _
  rw[goT_bad acc h h1] at ho;cases ho
 ·intro k acc t q h h1 q0 q1 _ ih out ho ha hb
  rw[goT_ok acc h h1] at ho;have hbe:=behind_ge s (k+q);refine ih out ho ?_ ?_
  ·unfold IncP
   rw[List.pairwise_append];refine⟨ha,List.pairwise_singleton _ _,fun x hx y hy=>?_⟩;rw[List.mem_singleton] at hy;subst hy;exact hb x hx
  ·intro x hx
   rcases List.mem_append.1 hx with hx | hx
   ·have:=hb x hx;omega
   ·rw[List.mem_singleton] at hx
    subst hx;show (k:Int)<_;omega
theorem scan_inc {s:Bs} {out:List Tok} (h:scan s=(some out,0,0)):IncP out:=by
 unfold scan at h
 split at h
 ·cases h
 ·exact goT_inc s _ [] out h List.Pairwise.nil (by simp)
theorem inc_at {l:List Tok} (h:IncP l) {i j:Nat} (hij:i<j) (hj:j<l.length):(nxp l i).pl<(nxp l j).pl:=by
 rw[nxp_at (List.getElem?_eq_getElem (show i<l.length by omega)),nxp_at (List.getElem?_eq_getElem hj)];exact List.pairwise_iff_getElem.1 h i j (by omega) hj hij
def minS (b:Option (Nat × Int)) (x:Nat × Int):Option (Nat × Int):=match b with
 | none=>some x
 | some y=>if x.1<y.1 then some x else some y
def fstS (sf:Sf):Option (Nat × Int):=sf.foldl minS none
theorem min_stay {x:Nat × Int}:∀ (s:Sf),(∀ y∈s,x.1≤y.1)→s.foldl minS (some x)=some x
 | [],_=>rfl
 | y::s,h=>by
   have h1:=h y (by simp);show s.foldl minS (minS (some x) y)=some x;have:minS (some x) y=some x:=by unfold minS;simp only;rw[if_neg (by omega)]
   rw[this];exact min_stay s fun z hz=>h z (by simp[hz])
theorem min_in:∀ (s:Sf) (b:Option (Nat × Int)) (z:Nat × Int),s.foldl minS b=some z→b=some z∨z∈s
 | [],_,_,h=> .inl h
 | y::s,b,z,h=>by
   rcases min_in s (minS b y) z h with h | h
   ·unfold minS at h
    split at h
    ·injection h with h;exact .inr (by simp[h])
    ·split at h
     ·injection h with h;exact .inr (by simp[h])
     ·exact .inl h
   ·exact .inr (by simp[h])
theorem min_some:∀ (s:Sf) (x:Nat × Int),∃ z,s.foldl minS (some x)=some z
 | [],x=>⟨x,rfl⟩
 | y::s,x=>by
   show ∃ z,s.foldl minS (minS (some x) y)=some z;unfold minS;simp only
   split
   ·exact min_some s y
   ·exact min_some s x
theorem fst_both {j:Nat} {s1 s2 L1 L2:Sf} (h1:∀ y∈s1++L1,y.1<j) (h2:∀ y∈s2++L2,j≤y.1):fstS ((s1++s2)++(L1++L2))=(fstS (s1++L1)).or (fstS (s2++L2)):=by
 have hs2:∀ y∈s2,j≤y.1:=fun y hy=>h2 y (by simp[hy])
 have hL2:∀ y∈L2,j≤y.1:=fun y hy=>h2 y (by simp[hy])
 unfold fstS;simp only[List.foldl_append]
 cases hr:s1.foldl minS none with
 | some x=>
   have hx:x.1<j:=by
    rcases min_in _ _ _ hr with e | e
    ·cases e
    ·exact h1 x (by simp[e])
   rw[min_stay s2 (fun y hy=>by have:=hs2 y hy;omega)];obtain⟨z,hz⟩:=min_some L1 x;rw[hz]
   have hzj:z.1<j:=by
    rcases min_in _ _ _ hz with e | e
    ·injection e with e;rw[←e];exact hx
    ·exact h1 z (by simp[e])
   rw[min_stay L2 (fun y hy=>by have:=hL2 y hy;omega)]
   rfl
 | none=>
   cases L1 with
   | nil=>rfl
   | cons y L1=>
     have hy:y.1<j:=h1 y (by simp)
     have e1:minS (s2.foldl minS none) y=some y:=by
      cases hu:s2.foldl minS none with
      | none=>rfl
      | some u=>
        have:j≤u.1:=by
         rcases min_in _ _ _ hu with e | e
         ·cases e
         ·exact hs2 u e
        unfold minS;simp only;rw[if_pos (by omega)]
     show L2.foldl minS (L1.foldl minS (minS (s2.foldl minS none) y))=(L1.foldl minS (minS none y)).or _;rw[e1];show L2.foldl minS (L1.foldl minS (some y))=(L1.foldl minS (some y)).or _;obtain⟨z,hz⟩:=min_some L1 y;rw[hz]
     have hzj:z.1<j:=by
      rcases min_in _ _ _ hz with e | e
      ·injection e with e;rw[←e];exact hy
      ·exact h1 z (by simp[e])
     rw[min_stay L2 (fun y hy=>by have:=hL2 y hy;omega)]
     rfl
theorem fst_head {b:Bool} {k:Nat} {e:Int} {s:Sf} (h:∀ y∈s,k≤y.1):fstS ((if b then [(k,e)] else [])++s)=if b then some (k,e) else fstS s:=by
 cases b with
 | true=>exact min_stay (x:=(k,e)) s h
 | false=>rfl
theorem softs_fst {l:List Tok} (hi:IncP l):∀ (s:Sf) (b:Option (Nat × Int)),(∀ y∈s,y.1<l.length)→(∀ y,b=some y→y.1<l.length)→softsP l (b.map fun x=>((nxp l x.1).pl,x.2)) s=(s.foldl minS b).map fun x=>((nxp l x.1).pl,x.2)
 | [],_,_,_=>rfl
 | x::s,b,hs,hb=>by
   have hx:=hs x (by simp)
   have e:softP l (b.map fun x=>((nxp l x.1).pl,x.2)) x=(minS b x).map fun x=>((nxp l x.1).pl,x.2):=by
    unfold softP minS
    cases b with
    | none=>rfl
    | some y=>
      have hy:=hb y rfl;simp only[Option.map_some];by_cases c:x.1<y.1
      ·rw[if_pos c,if_pos (inc_at hi c hy)];rfl
      ·rw[if_neg c,if_neg]
       ·rfl
       ·by_cases c2:x.1=y.1
        ·rw[c2];exact Int.lt_irrefl _
        ·have:=inc_at hi (show y.1<x.1 by omega) hx;omega
   show softsP l (softP l (b.map fun x=>((nxp l x.1).pl,x.2)) x) s=(s.foldl minS (minS b x)).map _;rw[e];refine softs_fst hi s _ (fun y hy=>hs y (by simp[hy])) fun y hy=>?_
   unfold minS at hy
   split at hy
   ·injection hy with hy;rw[←hy];exact hx
   ·rename_i y0
    split at hy
    ·injection hy with hy;rw[←hy];exact hx
    ·injection hy with hy;rw[←hy];exact hb y0 rfl
def Rel {α β:Type} (ns:List Bs) (k:Nat) (c:Prop) (U V:Gs→α→β→Prop):Rp α→Rp β→Prop
 | .ok x j sf gs,.ok x' j' sf' gs'=>j'=j∧gs'=[]∧k≤j∧(∀ y∈sf++linkS ns gs,k≤y.1∧y.1<j)∧U gs x x'∧(c→fstS (sf++linkS ns gs)=sf'.head?∧(sf'=[]→V gs x x'))
 | .bad j,.bad j'=>j'=j
 | _,_=>False
theorem linkS_app (ns:List Bs) (a b:Gs):linkS ns (a++b)=linkS ns a++linkS ns b:=by unfold linkS;exact List.filterMap_append
theorem head_or {s1 s2:Sf}:(s1++s2).head?=s1.head?.or s2.head?:=by cases s1 <;> rfl
theorem Rel.then {α β α' β':Type} {ns:List Bs} {k:Nat} {c:Prop} {U V:Gs→α→α'→Prop} {U3 V3:Gs→β→β'→Prop} {R:Rp α} {R':Rp α'} {f:α→Nat→Rp β} {f':α'→Nat→Rp β'} (h:Rel ns k c U V R R')
  (h2:∀ x x' j g1,k≤j→U g1 x x'→Rel ns j (c∧V g1 x x') (fun g2=>U3 (g1++g2)) (fun g2=>V3 (g1++g2)) (f x j) (f' x' j)):Rel ns k c U3 V3 (R.then f) (R'.then f'):=by
 cases R with
 | bad j=>
   cases R' with
   | bad j'=>exact h
   | ok x' j' sf' gs'=>exact h.elim
 | ok x j sf gs=>
   cases R' with
   | bad j'=>exact h.elim
   | ok x' j' sf' gs'=>
     obtain⟨rfl,rfl,hk,hr,hU,hc⟩:=h;have h2:=h2 x x' j' gs hk hU;unfold Rp.then
     simp only
     cases hf:f x j' with
     | bad m=>
       rw[hf] at h2
       cases hf':f' x' j' with
       | bad m'=>rw[hf'] at h2;exact h2
       | ok y m' s g=>rw[hf'] at h2;exact h2.elim
     | ok y m s2 g2=>
       rw[hf] at h2
       cases hf':f' x' j' with
       | bad m'=>rw[hf'] at h2;exact h2.elim
       | ok y' m' s2' g2'=>
         rw[hf'] at h2;obtain⟨rfl,rfl,hk2,hr2,hU2,hc2⟩:=h2;refine⟨rfl,rfl,Nat.le_trans hk hk2,fun y hy=>?_,hU2,fun hcc=>?_⟩
         ·rw[linkS_app] at hy
          have hy:y∈sf++linkS ns gs∨y∈s2++linkS ns g2:=by
           simp only[List.mem_append] at hy ⊢
           rcases hy with (hy | hy) | (hy | hy)
           ·exact .inl (.inl hy)
           ·exact .inr (.inl hy)
           ·exact .inl (.inr hy)
           ·exact .inr (.inr hy)
          rcases hy with hy | hy
          ·have:=hr y hy;omega
          ·have:=hr2 y hy;omega
         ·obtain⟨e1,v1⟩:=hc hcc
          rw[linkS_app,fst_both (fun y hy=>(hr y hy).2) (fun y hy=>(hr2 y hy).1),head_or,e1]
          cases sf' with
          | cons z sf'=>exact⟨rfl,fun e=>by cases e⟩
          | nil=>
            obtain⟨e2,v2⟩:=hc2 ⟨hcc,v1 rfl⟩;rw[e2];exact⟨rfl,fun e=>v2 e⟩
theorem Rel.met {α α':Type} {ns:List Bs} {k k':Nat} {c:Prop} {U V:Gs→α→α'→Prop} {R:Rp α} {R':Rp α'} {b b':Bool} {e:Int} (hb:b=b') (h:Rel ns k' c U V R R') (hl:k<k'):Rel ns k c U V (Rp.met b k e R) (Rp.met b' k e R'):=by
 subst hb
 cases R with
 | bad j=>
   cases R' with
   | bad j'=>exact h
   | ok x' j' sf' gs'=>exact h.elim
 | ok x j sf gs=>
   cases R' with
   | bad j'=>exact h.elim
   | ok x' j' sf' gs'=>
     obtain⟨rfl,rfl,hk,hr,hU,hc⟩:=h;refine⟨rfl,rfl,by omega,fun y hy=>?_,hU,fun hcc=>?_⟩
     ·rw[List.append_assoc] at hy
      rcases List.mem_append.1 hy with hy | hy
      ·cases b with
       | true=>simp at hy;rw[hy];exact⟨Nat.le_refl _,by show k<_;omega⟩
       | false=>simp at hy
      ·have:=hr y hy;omega
     ·obtain⟨e1,v1⟩:=hc hcc
      rw[List.append_assoc,fst_head (fun y hy=>by have:=(hr y hy).1;omega),e1]
      cases b with
      | true=>exact⟨rfl,fun e=>by cases e⟩
      | false=>exact⟨rfl,fun e=>v1 e⟩
theorem Rel.then0 {α β β':Type} {ns:List Bs} {k:Nat} {c:Prop} {U V:Gs→β→β'→Prop} {R:Rp α} {f:α→Nat→Rp β} {f':α→Nat→Rp β'} (hR:∀ x j sf gs,R= .ok x j sf gs→sf=[]∧gs=[])
  (h2:∀ x j,R= .ok x j [] []→Rel ns k c U V (f x j) (f' x j)):Rel ns k c U V (R.then f) (R.then f'):=by
 cases R with
 | bad j=>exact rfl
 | ok x j sf gs=>
   obtain⟨rfl,rfl⟩:=hR _ _ _ _ rfl;have h2:=h2 x j rfl;unfold Rp.then
   simp only
   cases hf:f x j with
   | bad m=>
     rw[hf] at h2
     cases hf':f' x j with
     | bad m'=>rw[hf'] at h2;exact h2
     | ok y m' s g=>rw[hf'] at h2;exact h2.elim
   | ok y m s2 g2=>
     rw[hf] at h2
     cases hf':f' x j with
     | bad m'=>rw[hf'] at h2;exact h2.elim
     | ok y' m' s2' g2'=>rw[hf'] at h2;exact h2
theorem then_assoc {α β γ:Type} (R:Rp α) (f:α→Nat→Rp β) (g:β→Nat→Rp γ):(R.then f).then g=R.then fun x i=>(f x i).then g:=by
 cases R with
 | bad j=>rfl
 | ok x j s1 g1=>
   show Rp.then (match f x j with | .ok y m sf' gs'=> .ok y m (s1++sf') (g1++gs') | .bad m=> .bad m) g=(match (f x j).then g with | .ok y m sf' gs'=> .ok y m (s1++sf') (g1++gs') | .bad m=> .bad m)
   cases f x j with
   | bad m=>rfl
   | ok y m s2 g2=>
     show (match g y m with | .ok z q sf' gs'=>Rp.ok z q ((s1++s2)++sf') ((g1++g2)++gs') | .bad q=> .bad q)=(match (match g y m with | .ok z q sf' gs'=>Rp.ok z q (s2++sf') (g2++gs') | .bad q=> .bad q) with | .ok y m sf' gs'=> .ok y m (s1++sf') (g1++gs') | .bad m=> .bad m)
     cases g y m with
     | bad q=>rfl
     | ok z q s3 g3=>simp
theorem ok_then {α β:Type} (x:α) (j k:Nat) (b:Bool) (e:Int) (f:α→Nat→Rp β):(Rp.ok x j (if b then [(k,e)] else []) []).then f=Rp.met b k e (f x j):=by
 unfold Rp.then Rp.met
 simp only
 cases f x j <;> rfl
theorem ok_then0 {α β:Type} (x:α) (j:Nat) (f:α→Nat→Rp β):(Rp.ok x j [] []).then f=f x j:=by
 unfold Rp.then
 simp only
 cases f x j <;> rfl
theorem Rel.back {α α':Type} {ns:List Bs} {k k':Nat} {c:Prop} {U V:Gs→α→α'→Prop} {R:Rp α} {R':Rp α'} (h:Rel ns k' c U V R R') (hk:k≤k'):Rel ns k c U V R R':=by
 cases R with
 | bad j=>
   cases R' with
   | bad j'=>exact h
   | ok x' j' sf' gs'=>exact h.elim
 | ok x j sf gs=>
   cases R' with
   | bad j'=>exact h.elim
   | ok x' j' sf' gs'=>
     obtain⟨rfl,rfl,hk1,hr,hU1,hcc⟩:=h;exact⟨rfl,rfl,Nat.le_trans hk hk1,fun y hy=>⟨Nat.le_trans hk (hr y hy).1,(hr y hy).2⟩,hU1,hcc⟩
section
def badText (kind:Int) (cap:Int) (s:Bs):Bool:=if kind=1 then decide (s=[]∨cap<s.length) else !globOk s
section
variable (l:List Tok)
def ctext (kind cap:Int) (k:Nat):Rp Bs:=(textP l k).then fun s i=> .ok s i (if badText kind cap s then [(k,5)] else []) []
def cdel (least:Int) (k:Nat):Rp Int:=(takeP l 2 k).then fun t j=> .ok t.n j ((if 9<t.n then [(k,2)] else [])++(if t.n<least then [(k,5)] else [])) []
def cdels (k:Nat):Rp (Int × Int):=(needP l 1 wAfter k).then fun _ i=>(cdel l 0 i).then fun lo j=>if isP l 1 wEver j then .ok (lo, -1) (j+1) [] [] else (cdel l lo j).then fun hi m=> .ok (lo,hi) m [] []
def cgoto (ns:List Bs) (k:Nat):Rp Int:=(needP l 1 wGoto k).then fun _ i=>(nameP l i).then fun w j=> .ok (idxP ns w) j (if w∈ns then [] else [(i,6)]) []
def ckind (k:Nat):Rp Int:=if isP l 1 wEmit k then .ok 1 (k+1) [] [] else if isP l 1 wLine k then .ok 2 (k+1) [] [] else if isP l 1 wShut k then .ok 3 (k+1) [] [] else .bad k
def cedgeK (ns:List Bs) (cap:Int) (kd:Int) (i:Nat):Rp EdP:=if kd=1 then (ctext l 1 cap i).then fun s i=>(cdels l i).then fun d j=>(cgoto l ns j).then fun t m=> .ok ⟨1,s,d.1,d.2,t⟩ m [] []
 else if kd=2 then (ctext l 2 cap i).then fun s i=>(cgoto l ns i).then fun t m=> .ok ⟨2,s,0,0,t⟩ m [] []
 else (cdels l i).then fun d j=> .ok ⟨3,[],d.1,d.2,0⟩ j [] []
def cedge (ns:List Bs) (cap:Int) (k:Nat):Rp EdP:=(ckind l k).then (cedgeK l ns cap)
def cedges (ns:List Bs) (cap:Int):Nat→Nat→Nat→Rp (List EdP)
 | 0,_,k=> .bad k
 | N+1,many,k=>if isP l 4 [125] k then .ok [] (k+1) [] [] else (Rp.met (decide (8≤many)) k 9 (cedge l ns cap k)).then fun e i=>(cedges ns cap N (many+1) i).then fun es m=> .ok (e::es) m [] []
def cname (met:List Bs) (k:Nat):Rp Bs:=(nameP l k).then fun w j=> .ok w j (if met.contains w then [(k,12)] else []) []
def cplace (ns:List Bs) (cap:Int) (met:List Bs) (k:Nat):Rp PlP:=(needP l 1 wAt k).then fun _ i=>(cname l met i).then fun w j=>(echoP l j).then fun b m=>(needP l 4 [123] m).then fun _ q=>(cedges l ns cap (l.length+1) 0 q).then fun es r=> .ok ⟨w,b,es⟩ r [] []
def cplaces (ns:List Bs) (cap:Int):Nat→List Bs→Nat→Rp (List PlP)
 | 0,_,k=> .bad k
 | N+1,met,k=>(Rp.met (decide (16≤met.length)) k 9 (cplace l ns cap met k)).then fun x i=>if i<l.length then (cplaces ns cap N (met++[x.name]) i).then fun xs m=> .ok (x::xs) m [] [] else .ok [x] i [] []
def ccap (k:Nat):Rp Int:=(takeP l 2 k).then fun t j=> .ok t.n j (if decide (t.n<1∨16<t.n) then [(k,2)] else []) []
def callC (ns:List Bs):Rp PeP:=(needP l 1 wCap 0).then fun _ i=>(ccap l i).then fun t j=>(cplaces l ns t (l.length+1) [] j).then fun xs m=> .ok ⟨t,xs⟩ m [] []
end
def Has (GS:Gs) (g:Nat) (gs:Gs):Prop:=∀ i y,gs[i]?=some y→GS[g+i]?=some y
theorem Has.left {GS:Gs} {g:Nat} {a b:Gs} (h:Has GS g (a++b)):Has GS g a:=fun i y hy=>h i y (by
 have:=(List.getElem?_eq_some_iff.1 hy).1;rw[List.getElem?_append_left this];exact hy)
theorem Has.right {GS:Gs} {g:Nat} {a b:Gs} (h:Has GS g (a++b)):Has GS (g+a.length) b:=fun i y hy=>by
 have:=h (a.length+i) y (by rw[List.getElem?_append_right (by omega),Nat.add_sub_cancel_left];exact hy);rw[←Nat.add_assoc] at this;exact this
section
variable {l:List Tok} {ns:List Bs}
theorem need_e {kd:Int} {w:Bs} {k:Nat}:∀ x j sf gs,needP l kd w k= .ok x j sf gs→sf=[]∧gs=[]:=fun _ _ _ _ h=>⟨(need_ok h).2.1,(need_ok h).2.2.1⟩
theorem name_e {k:Nat}:∀ x j sf gs,nameP l k= .ok x j sf gs→sf=[]∧gs=[]:=fun _ _ _ _ h=>⟨(name_ok h).2.1,(name_ok h).2.2.1⟩
theorem text_e {k:Nat}:∀ x j sf gs,textP l k= .ok x j sf gs→sf=[]∧gs=[]:=fun _ _ _ _ h=>⟨(text_okP h).2.1,(text_okP h).2.2.1⟩
theorem take_e {kd:Int} {k:Nat}:∀ x j sf gs,takeP l kd k= .ok x j sf gs→sf=[]∧gs=[]:=fun _ _ _ _ h=>⟨(take_ok h).2.1,(take_ok h).2.2.1⟩
theorem echo_e {k:Nat}:∀ x j sf gs,echoP l k= .ok x j sf gs→sf=[]∧gs=[]:=fun _ _ _ _ h=>by
 unfold echoP at h
 split at h <;> (injection h with _ _ h1 h2;exact⟨h1.symm,h2.symm⟩)
theorem echo_j {k j:Nat} {x:Bool} {sf:Sf} {gs:Gs} (h:echoP l k= .ok x j sf gs):k≤j:=by
 unfold echoP at h
 split at h <;> (injection h with _ h1;omega)
theorem rel_ok {α β:Type} {k j:Nat} {c:Prop} {U V:Gs→α→β→Prop} {x:α} {x':β} (hk:k≤j) (hU:U [] x x') (hV:c→V [] x x'):Rel ns k c U V (.ok x j [] []) (.ok x' j [] []):=⟨rfl,rfl,hk,by simp[linkS],hU,fun h=>⟨rfl,fun _=>hV h⟩⟩
theorem rel_small (hn:∀ k,(nxp l k).kind=2→0≤(nxp l k).n) (k:Nat) (c:Prop):Rel ns k c (fun g _ _=>g=[]) (fun _ lo lo'=>lo=lo'∧lo'≤9) (smlP l k) (cdel l 0 k):=by
 unfold smlP cdel takeP
 split
 ·rename_i hk
  have h0:=hn k hk;simp only[Rp.then,Rp.met];refine⟨rfl,rfl,by omega,?_,rfl,fun _=>?_⟩
  ·simp[linkS]
  ·rw[if_neg (show ¬ (nxp l k).n<0 by omega)]
   by_cases c9:9<(nxp l k).n
   ·simp[c9,linkS,fstS,minS]
   ·simp[c9,linkS,fstS];omega
 ·exact rfl
theorem rel_delay (hn:∀ k,(nxp l k).kind=2→0≤(nxp l k).n) (k:Nat) (c:Prop):Rel ns k c (fun g _ _=>g=[]) (fun _ d d'=>d=d') (delayP l k) (cdels l k):=by
 unfold delayP cdels;refine Rel.then0 need_e fun _ i hi=>?_
 have hik:=(need_ok hi).1;refine Rel.back (k':=i) ?_ (by omega);refine Rel.then (rel_small hn i c) fun lo lo' j g1 _ hg=>?_
 subst hg
 split
 ·exact rel_ok (by omega) rfl fun h=>by rw[h.2.1]
 ·unfold smlP cdel takeP
  split
  ·rename_i hk
   have h0:=hn j hk;simp only[Rp.then,Rp.met];refine⟨rfl,rfl,by omega,?_,rfl,fun hc=>?_⟩
   ·intro y hy
    simp[linkS] at hy;have:y.1=j:=by rcases hy with hy | hy <;> rw[hy.2]
    omega
   ·obtain⟨_,rfl,h9⟩:=hc
    by_cases c9:9<(nxp l j).n
    ·simp[c9,linkS,fstS]
     rw[if_neg (by omega)];simp[minS]
    ·by_cases cl:(nxp l j).n<lo
     ·simp[c9,cl,linkS,fstS]
      rw[if_pos (by omega)];simp[minS]
     ·simp[c9,cl,linkS,fstS]
  ·exact rfl
theorem rel_goto (g k:Nat) (c:Prop):Rel ns k c (fun gs (t:Int) _=>t=g∧gs.length=1) (fun gs _ t'=>∀ GS,Has GS g gs→idxP ns (GS[g]?.getD ([],0)).1=t') (toP l g k) (cgoto l ns k):=by
 unfold toP cgoto;refine Rel.then0 need_e fun _ i hi=>?_
 have hik:=(need_ok hi).1;refine Rel.then0 name_e fun w j hj=>?_
 have hjk:=(name_ok hj).1;refine⟨rfl,rfl,by omega,?_,⟨rfl,rfl⟩,fun _=>⟨?_,fun _ GS hh=>?_⟩⟩
 ·unfold linkS
  by_cases hw:w∈ns
  ·simp[hw]
  ·simp[hw];omega
 ·unfold linkS
  by_cases hw:w∈ns
  ·simp[hw];rfl
  ·simp[hw];rfl
 ·have:=hh 0 (w,i) rfl
  rw[Nat.add_zero] at this;rw[this];rfl
abbrev EdU (gs:Gs) (e e':EdP):Prop:=e.kind=e'.kind∧gs.length=goesP e
abbrev EdV (ns:List Bs) (g:Nat) (gs:Gs) (e e':EdP):Prop:=∀ GS,Has GS g gs→linkE ns GS e=e'
theorem rel_edge (hn:∀ k,(nxp l k).kind=2→0≤(nxp l k).n) (cap:Int) (many g k:Nat) (c:Prop):Rel ns k c EdU (EdV ns g) (edgeP l cap many g k) (Rp.met (decide (8≤many)) k 9 (cedge l ns cap k)):=by
 unfold edgeP cedge ckind;refine Rel.met (k':=k+1) rfl ?_ (by omega)
 split
 ·rw[ok_then0]
  unfold cedgeK;rw[if_pos rfl];unfold ctext;rw[then_assoc];refine Rel.then0 text_e fun s i hi=>?_
  have hik:=(text_okP hi).1;rw[ok_then];refine Rel.met (k':=i) (by unfold badText;rw[if_pos rfl]) ?_ (by omega);refine Rel.then (rel_delay hn i c) fun d d' j g1 _ hg=>?_
  subst hg;refine Rel.then (rel_goto g j _) fun t t' m g2 _ ht=>?_
  obtain⟨rfl,hl⟩:=ht;refine rel_ok (Nat.le_refl _) ⟨rfl,by simp[hl,goesP]⟩ fun h GS hh=>?_
  obtain⟨⟨_,rfl⟩,hv⟩:=h;have:=hv GS (by simpa using hh);unfold linkE;rw[if_neg (by show ¬ (1:Int)=3;decide)];simp only[Int.toNat_natCast,this]
 ·split
  ·rw[ok_then0]
   unfold cedgeK;rw[if_neg (by decide),if_pos rfl];unfold ctext;rw[then_assoc];refine Rel.then0 text_e fun s i hi=>?_
   have hik:=(text_okP hi).1;rw[ok_then];refine Rel.met (k':=i) (by unfold badText;rw[if_neg (by decide)]) ?_ (by omega);refine Rel.then (rel_goto g i c) fun t t' m g2 _ ht=>?_
   obtain⟨rfl,hl⟩:=ht;refine rel_ok (Nat.le_refl _) ⟨rfl,by simp[hl,goesP]⟩ fun h GS hh=>?_
   have:=h.2 GS (by simpa using hh);unfold linkE;rw[if_neg (by show ¬ (2:Int)=3;decide)];simp only[Int.toNat_natCast,this]
  ·unfold needP
   split
   ·rw[ok_then0,ok_then0]
    unfold cedgeK;rw[if_neg (by decide),if_neg (by decide)];refine Rel.then (rel_delay hn (k+1) c) fun d d' j g1 _ hg=>?_
    subst hg;exact rel_ok (Nat.le_refl _) ⟨rfl,rfl⟩ fun h GS _=>by rw[h.2];rfl
   ·exact rfl
abbrev EsU (gs:Gs) (es _:List EdP):Prop:=gs.length=goesL es
abbrev EsV (ns:List Bs) (g:Nat) (gs:Gs) (es es':List EdP):Prop:=∀ GS,Has GS g gs→es.map (linkE ns GS)=es'
theorem rel_edges (hn:∀ k,(nxp l k).kind=2→0≤(nxp l k).n) (cap:Int):∀ (N many g k:Nat) (c:Prop),Rel ns k c EsU (EsV ns g) ((edgesP l cap N many g k).then fun es r=>(needP l 4 [125] r).then fun _ v=> .ok es v [] []) (cedges l ns cap N many k)
 | 0,_,_,_,_=>rfl
 | N+1,many,g,k,c=>by
   unfold edgesP cedges;by_cases hi:isP l 4 [125] k=true
   ·rw[if_pos hi,if_pos hi,ok_then0]
    unfold needP;rw[if_pos hi,ok_then0];exact rel_ok (by omega) rfl fun _ _ _=>rfl
   ·rw[if_neg hi,if_neg hi,then_assoc]
    refine Rel.then (rel_edge hn cap many g k c) fun e e' i g1 _ he=>?_
    have ih:=rel_edges hn cap N (many+1) (g+goesP e) i (c∧EdV ns g g1 e e')
    have e1:((edgesP l cap N (many+1) (g+goesP e) i).then fun es m=> .ok (e::es) m [] []).then (fun es r=>(needP l 4 [125] r).then fun _ v=> .ok es v [] [])=((edgesP l cap N (many+1) (g+goesP e) i).then fun es r=>(needP l 4 [125] r).then fun _ v=> .ok es v [] []).then fun es m=> .ok (e::es) m [] []:=by
     rw[then_assoc,then_assoc]
     congr 1
     funext es m
     rw[ok_then0,then_assoc]
     congr 1
    rw[e1];refine Rel.then ih fun es es' m g2 _ hes=>?_
    refine rel_ok (Nat.le_refl _) ?_ fun h GS hh=>?_
    ·show (g1++(g2++[])).length=goesL (e::es)
     rw[goesL_cons,List.append_nil,List.length_append,he.2,hes]
    ·obtain⟨⟨_,h1⟩,h2⟩:=h
     rw[List.append_nil] at hh;rw[List.map_cons,h1 GS hh.left,h2 GS (by have:=hh.right;rw[he.2] at this;exact this)]
abbrev PlU (gs:Gs) (x x':PlP):Prop:=x.name=x'.name∧gs.length=goesL x.edges
abbrev PlV (ns:List Bs) (g:Nat) (gs:Gs) (x x':PlP):Prop:=∀ GS,Has GS g gs→linkX ns GS x=x'
theorem rel_place (hn:∀ k,(nxp l k).kind=2→0≤(nxp l k).n) (cap:Int) (met:List Bs) (g k:Nat) (c:Prop):Rel ns k c PlU (PlV ns g) (placeP l cap met g k) (Rp.met (decide (16≤met.length)) k 9 (cplace l ns cap met k)):=by
 have e0:Rp.met (decide (16≤met.length)) k 9 (cplace l ns cap met k)=(needP l 1 wAt k).then fun _ i=>Rp.met (decide (16≤met.length)) k 9 ((cname l met i).then fun w j=>(echoP l j).then fun b m=>(needP l 4 [123] m).then fun _ q=>(cedges l ns cap (l.length+1) 0 q).then fun es r=> .ok ⟨w,b,es⟩ r [] []):=by
  unfold cplace needP
  split
  ·rw[ok_then0,ok_then0]
  ·rfl
 rw[e0];unfold placeP;refine Rel.then0 need_e fun _ i hi=>?_
 have hik:=(need_ok hi).1;refine Rel.met (k':=i) rfl ?_ (by omega);unfold cname;rw[then_assoc];refine Rel.then0 name_e fun w j hj=>?_
 have hjk:=(name_ok hj).1;rw[ok_then];refine Rel.met (k':=j) rfl ?_ (by omega);refine Rel.then0 echo_e fun b m hm=>?_
 have hmk:=echo_j hm;refine Rel.then0 need_e fun _ q hq=>?_
 have hqk:=(need_ok hq).1;refine Rel.back (k':=q) ?_ (by omega)
 have e1:((edgesP l cap (l.length+1) 0 g q).then fun es r=>(needP l 4 [125] r).then fun _ v=>Rp.ok (⟨w,b,es⟩:PlP) v [] [])=((edgesP l cap (l.length+1) 0 g q).then fun es r=>(needP l 4 [125] r).then fun _ v=> .ok es v [] []).then fun es v=> .ok ⟨w,b,es⟩ v [] []:=by
  rw[then_assoc]
  congr 1
  funext es r
  rw[then_assoc]
  congr 1
 rw[e1];refine Rel.then (rel_edges hn cap _ _ g q c) fun es es' r g1 _ hes=>?_
 refine rel_ok (Nat.le_refl _) ⟨rfl,by simpa using hes⟩ fun h GS hh=>?_
 unfold linkX;rw[h.2 GS (by simpa using hh)]
abbrev PsU (_:Gs) (xs xs':List PlP):Prop:=xs.map (·.name)=xs'.map (·.name)
abbrev PsV (ns:List Bs) (g:Nat) (gs:Gs) (xs xs':List PlP):Prop:=∀ GS,Has GS g gs→xs.map (linkX ns GS)=xs'
theorem rel_places (hn:∀ k,(nxp l k).kind=2→0≤(nxp l k).n) (cap:Int):∀ (N:Nat) (met:List Bs) (g k:Nat) (c:Prop),Rel ns k c PsU (PsV ns g) (placesP l cap N met g k) (cplaces l ns cap N met k)
 | 0,_,_,_,_=>rfl
 | N+1,met,g,k,c=>by
   unfold placesP cplaces;refine Rel.then (rel_place hn cap met g k c) fun x x' i g1 _ hx=>?_
   obtain⟨hx1,hx2⟩:=hx;rw[←hx1]
   split
   ·refine Rel.then (rel_places hn cap N (met++[x.name]) (g+goesL x.edges) i _) fun xs xs' m g2 _ hxs=>?_
    refine rel_ok (Nat.le_refl _) ?_ fun h GS hh=>?_
    ·show (x::xs).map (·.name)=(x'::xs').map (·.name)
     rw[List.map_cons,List.map_cons,hx1,hxs]
    ·obtain⟨⟨_,h1⟩,h2⟩:=h
     rw[List.append_nil] at hh;rw[List.map_cons,h1 GS hh.left,h2 GS (by have:=hh.right;rw[hx2] at this;exact this)]
   ·refine rel_ok (Nat.le_refl _) ?_ fun h GS hh=>?_
    ·show [x].map (·.name)=[x'].map (·.name)
     simp[hx1]
    ·rw[List.append_nil] at hh
     rw[List.map_cons,h.2 GS hh];rfl
theorem rel_all (hn:∀ k,(nxp l k).kind=2→0≤(nxp l k).n):Rel ns 0 True (fun _ p p'=>p.places.map (·.name)=p'.places.map (·.name)) (fun gs p p'=>p'.cap=p.cap∧p.places.map (linkX ns gs)=p'.places) (allP l) (callC l ns):=by
 unfold allP callC;refine Rel.then0 need_e fun _ i hi=>?_
 have hik:=(need_ok hi).1;unfold ccap;rw[then_assoc];refine Rel.back (k':=i) ?_ (by omega);refine Rel.then0 take_e fun t j hj=>?_
 have hjk:=(take_ok hj).1;rw[ok_then];refine Rel.met (k':=j) rfl ?_ (by omega);refine Rel.then (rel_places hn t.n _ [] 0 j True) fun xs xs' m g1 _ hxs=>?_
 refine rel_ok (Nat.le_refl _) hxs fun h=>⟨rfl,?_⟩
 exact h.2 _ (by simp[Has])
end
def outCd (n:Nat) (l:List Tok):Option PeP × Int × Int:=match callC l [] with
 | .bad j=>(none,placeOf n l j,1)
 | .ok p0 _ _ _=>match callC l (p0.places.map (·.name)) with
   | .bad j=>(none,placeOf n l j,1)
   | .ok p _ sf _=>match sf.head? with
     | some (k,e)=>(none,(nxp l k).pl,e)
     | none=>(some p,0,0)
end
section
def LeR {α:Type} (l:List Tok) (R:Rp α):Prop:=∀ y m s gs,R= .ok y m s gs→m≤l.length
section
variable {l:List Tok}
theorem leR_then {α β:Type} {R:Rp α} {f:α→Nat→Rp β} (h1:LeR l R) (h2:∀ x i,i≤l.length→LeR l (f x i)):LeR l (R.then f):=by
 intro y m s gs h
 cases R with
 | bad j=>cases h
 | ok x i s1 g1=>
   unfold Rp.then at h
   simp only at h
   cases hf:f x i with
   | bad j=>rw[hf] at h;cases h
   | ok z m' s2 g2=>
     rw[hf] at h;injection h with _ hm
     rw[←hm];exact h2 x i (h1 _ _ _ _ rfl) _ _ _ _ hf
theorem leR_met {α:Type} {b:Bool} {k:Nat} {e:Int} {R:Rp α} (h1:LeR l R):LeR l (Rp.met b k e R):=by
 intro y m s gs h
 cases R with
 | bad j=>cases h
 | ok x i s1 g1=>injection h with _ hm;rw[←hm];exact h1 _ _ _ _ rfl
theorem leR_ok {α:Type} (x:α) (j:Nat) (s:Sf) (gs:Gs) (hj:j≤l.length):LeR l (.ok x j s gs):=fun y m s g h=>by injection h with _ h;omega
theorem leR_bad {α:Type} (j:Nat):LeR l (.bad j:Rp α):=fun y m s g h=>by cases h
theorem leR_need (kd:Int) (hk:kd≠0) (w:Bs) (k:Nat):LeR l (needP l kd w k):=by
 unfold needP
 split
 ·rename_i h;exact leR_ok _ _ _ _ (isP_lt h hk)
 ·exact leR_bad _
theorem leR_take (kd:Int) (hk:kd≠0) (k:Nat):LeR l (takeP l kd k):=by
 unfold takeP
 split
 ·rename_i h;exact leR_ok _ _ _ _ (nxp_lt (by rw[h];exact hk))
 ·exact leR_bad _
theorem leR_name (k:Nat):LeR l (nameP l k):=by
 unfold nameP
 split
 ·rename_i h;exact leR_ok _ _ _ _ (nxp_lt (by rw[h.1];decide))
 ·exact leR_bad _
theorem leR_text (k:Nat):LeR l (textP l k):=by
 unfold textP
 split
 ·rename_i h
  split
  ·exact leR_ok _ _ _ _ (nxp_lt (by rw[h];decide))
  ·exact leR_bad _
 ·exact leR_bad _
theorem leR_small (k:Nat):LeR l (smlP l k):=leR_then (leR_take 2 (by decide) k) fun _ _ h=>leR_met (leR_ok _ _ _ _ h)
theorem leR_delay (k:Nat):LeR l (delayP l k):=leR_then (leR_need 1 (by decide) wAfter k) fun _ i _=>leR_then (leR_small i) fun _ j _=>by
 split
 ·rename_i h;exact leR_ok _ _ _ _ (isP_lt h (by decide))
 ·exact leR_then (leR_small j) fun _ _ h=>leR_met (leR_ok _ _ _ _ h)
theorem leR_to (g k:Nat):LeR l (toP l g k):=leR_then (leR_need 1 (by decide) wGoto k) fun _ i _=>leR_then (leR_name i) fun _ _ h=>leR_ok _ _ _ _ h
theorem leR_edge (cap:Int) (many g k:Nat):LeR l (edgeP l cap many g k):=by
 unfold edgeP;refine leR_met ?_
 split
 ·exact leR_then (leR_text _) fun _ _ _=>leR_met (leR_then (leR_delay _) fun _ _ _=>leR_then (leR_to _ _) fun _ _ h=>leR_ok _ _ _ _ h)
 ·split
  ·exact leR_then (leR_text _) fun _ _ _=>leR_met (leR_then (leR_to _ _) fun _ _ h=>leR_ok _ _ _ _ h)
  ·exact leR_then (leR_need _ (by decide) _ _) fun _ _ _=>leR_then (leR_delay _) fun _ _ h=>leR_ok _ _ _ _ h
theorem leR_edges (cap:Int):∀ N many g k,LeR l (edgesP l cap N many g k)
 | 0,_,_,_=>leR_bad _
 | N+1,many,g,k=>by
   unfold edgesP
   split
   ·rename_i h;exact leR_ok _ _ _ _ (Nat.le_of_lt (isP_lt h (by decide)))
   ·exact leR_then (leR_edge cap _ _ _) fun _ _ _=>leR_then (leR_edges cap N _ _ _) fun _ _ h=>leR_ok _ _ _ _ h
theorem leR_place (cap:Int) (ns:List Bs) (g k:Nat):LeR l (placeP l cap ns g k):=leR_then (leR_need _ (by decide) _ _) fun _ _ _=>leR_met (leR_then (leR_name _) fun _ j hj=>leR_met (leR_then (by
 unfold echoP
 split
 ·rename_i h;exact leR_ok _ _ _ _ (isP_lt h (by decide))
 ·exact leR_ok _ _ _ _ hj) fun _ _ _=>leR_then (leR_need _ (by decide) _ _) fun _ _ _=>leR_then (leR_edges cap _ _ _ _) fun _ _ _=>leR_then (leR_need _ (by decide) _ _) fun _ _ h=>leR_ok _ _ _ _ h))
theorem leR_places (cap:Int):∀ N ns g k,LeR l (placesP l cap N ns g k)
 | 0,_,_,_=>leR_bad _
 | N+1,ns,g,k=>leR_then (leR_place cap ns g k) fun x i hi=>by
   split
   ·exact leR_then (leR_places cap N _ _ _) fun _ _ h=>leR_ok _ _ _ _ h
   ·exact leR_ok _ _ _ _ hi
theorem leR_all:LeR l (allP l):=leR_then (leR_need _ (by decide) _ _) fun _ _ _=>leR_then (leR_take _ (by decide) _) fun _ _ _=>leR_met (leR_then (leR_places _ _ _ _ _) fun _ _ h=>leR_ok _ _ _ _ h)
end
theorem out_code {n:Nat} {l:List Tok} (hi:IncP l) (hl:∀ t∈l,okT t=true):outCd n l=outPe n l:=by
 have hn:∀ k,(nxp l k).kind=2→0≤(nxp l k).n:=fun k hk=>ok_n hl hk
 have hlt:∀ k j:Nat,k<j→j≤l.length→k<l.length:=fun k j h1 h2=>by omega
 unfold outCd outPe;have h0:=rel_all (ns:=[]) hn
 cases hA:allP l with
 | bad j=>
   rw[hA] at h0
   cases hC:callC l [] with
   | bad j'=>rw[hC] at h0;rw[show j'=j from h0]
   | ok p j' sf gs=>rw[hC] at h0;exact h0.elim
 | ok p j sf gs=>
   rw[hA] at h0
   cases hC:callC l [] with
   | bad j'=>rw[hC] at h0;exact h0.elim
   | ok p0 j0 sf0 gs0=>
     rw[hC] at h0;obtain⟨-, -, -, -,hU, -⟩:=h0;have h1:=rel_all (ns:=p.places.map (·.name)) hn;rw[hA] at h1;simp only;rw[←hU]
     cases hC1:callC l (p.places.map (·.name)) with
     | bad j'=>rw[hC1] at h1;exact h1.elim
     | ok p1 j1 sf1 gs1=>
       rw[hC1] at h1;obtain⟨-, -, -,hr, -,hc⟩:=h1;obtain⟨e1,v1⟩:=hc trivial;have hj:j≤l.length:=leR_all _ _ _ _ hA;have hs:=softs_fst hi (sf++linkS (p.places.map (·.name)) gs) none (fun y hy=>by have:=(hr y hy).2;omega) (fun y hy=>by cases hy);rw[Option.map_none] at hs;simp only;rw[hs];unfold fstS at e1;rw[e1]
       cases hs1:sf1.head? with
       | some y=>obtain⟨k,e⟩:=y;rfl
       | none=>
         have:sf1=[]:=List.head?_eq_none_iff.1 hs1;obtain⟨v2,v3⟩:=v1 this
         have:p1=linkP gs p:=by
          unfold linkP;rw[v3,←v2]
         rw[this];rfl
theorem code_both {l:List Tok} (hl:∀ t∈l,okT t=true) {p0:PeP} {j0:Nat} {s0:Sf} {g0:Gs} (h:callC l []= .ok p0 j0 s0 g0):∃ p1 j1 s1 g1,callC l (p0.places.map (·.name))= .ok p1 j1 s1 g1∧∀ y,s1.head?=some y→y.1<l.length:=by
 have hn:∀ k,(nxp l k).kind=2→0≤(nxp l k).n:=fun k hk=>ok_n hl hk
 have h0:=rel_all (ns:=[]) hn;rw[h] at h0
 cases hA:allP l with
 | bad j=>rw[hA] at h0;exact h0.elim
 | ok p j sf gs=>
   have h1:=rel_all (ns:=p0.places.map (·.name)) hn;rw[hA] at h1
   cases hC:callC l (p0.places.map (·.name)) with
   | bad j'=>rw[hC] at h1;exact h1.elim
   | ok p1 j1 s1 g1=>
     rw[hC] at h1;obtain⟨-, -, -,hr, -,hc⟩:=h1;have e1:=(hc trivial).1;have hj:=leR_all _ _ _ _ hA;refine⟨p1,j1,s1,g1,rfl,fun y hy=>?_⟩;rw[hy] at e1
     rcases min_in _ _ _ e1 with e | e
     ·cases e
     ·have:=(hr y e).2;omega
end
end Go.Proofs.YtdobinjbejagcaaGreatDoor
