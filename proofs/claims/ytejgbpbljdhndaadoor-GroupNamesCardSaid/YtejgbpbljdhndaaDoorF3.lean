import Derived.Test.YtejgbpbljdhndaaDoorF9
import Derived.Test.YtejgbpbljdhndaaDoorG3
namespace Go.Proofs.YtejgbpbljdhndaaDoor
open Go Go.RowKit
mutual
def HasG:Re→Int→Re→Prop
 | .mk k _ ks _ _ m,n,x=>(k=7∧m=n∧ks=[x])∨HasGL ks n x
def HasGL:List Re→Int→Re→Prop
 | [],_,_=>False
 | r::rs,n,x=>HasG r n x∨HasGL rs n x
end
theorem y2b {n:Int} {x r:Re}:∀ {l:List Re},r∈l→HasG r n x→HasGL l n x
 | q::l,h,h1=>by
   rw[HasGL]
   rcases List.mem_cons.1 h with rfl | h
   ·exact .inl h1
   ·exact .inr (y2b h h1)
structure GNum (H:Int→Re→Prop) (g g':Nat):Prop where
 le:g≤g'
 num:∀ n x,H n x→∃ q,n=num q∧g<q∧q≤g'
 one:∀ n x y,n≠0→H n x→H n y→x=y
 nest:∀ n x y,n≠0→H n x→¬ HasG x n y
theorem y67 {a b:Nat} (h:num a=num b) (h0:num a≠0):a=b:=by
 unfold num at h h0
 split at h0
 ·exact absurd rfl h0
 ·split at h <;> split at h <;> omega
theorem y0u {l:List Re}:∀ {lv d g g':Nat},formL l lv d g=some g'→∀ r∈l,∃ q q',form r lv d q=some q':=by
 induction l with
 | nil=>intro _ _ _ _ _ r hr;cases hr
 | cons y l ih=>
   intro lv d g g' h r hr;rw[formL] at h
   split at h
   ·cases h
   ·rename_i q hq
    rcases List.mem_cons.1 hr with rfl | hr
    ·exact⟨g,q,hq⟩
    ·exact ih h r hr
theorem y0z (r:Re):∀ {lv d g g':Nat},form r lv d g=some g'→GNum (HasG r) g g':=by
 induction r using Re.ind with
 | h k S ks lo hi n ih=>
   have hL:∀ (l:List Re),(∀ r∈l,r∈ks)→∀ {lv d g g':Nat},formL l lv d g=some g'→GNum (HasGL l) g g':=by
    intro l
    induction l with
    | nil=>
      intro _ lv d g g' h;rw[formL] at h;injection h with h;subst h
      exact⟨Nat.le_refl _,fun n x h=>by rw[HasGL] at h;exact h.elim,fun n x y _ h=>by rw[HasGL] at h;exact h.elim,fun n x y _ h=>by rw[HasGL] at h;exact h.elim⟩
    | cons y l ihl=>
      intro hx lv d g g' h;rw[formL] at h
      split at h
      ·cases h
      ·rename_i q hq
       have a1:=ih y (hx y (List.mem_cons_self ..)) hq;have a2:=ihl (fun z hz=>hx z (List.mem_cons_of_mem _ hz)) h
       have apart:∀ n x z,n≠0→HasG y n x→HasGL l n z→False:=fun n x z h0 h1 h2=>by
        obtain⟨u,e1,e2,e3⟩:=a1.num n x h1;obtain⟨v,f1,f2,f3⟩:=a2.num n z h2;have:=y67 (e1.symm.trans f1) (by rw[←e1];exact h0);omega
       refine⟨Nat.le_trans a1.le a2.le,fun n x h=>?_,fun n x z h0 h1 h2=>?_,fun n x z h0 h1=>?_⟩
       ·rw[HasGL] at h
        rcases h with h | h
        ·obtain⟨u,e1,e2,e3⟩:=a1.num n x h;exact⟨u,e1,e2,Nat.le_trans e3 a2.le⟩
        ·obtain⟨u,e1,e2,e3⟩:=a2.num n x h;exact⟨u,e1,Nat.lt_of_le_of_lt a1.le e2,e3⟩
       ·rw[HasGL] at h1 h2
        rcases h1 with h1 | h1 <;> rcases h2 with h2 | h2
        ·exact a1.one n x z h0 h1 h2
        ·exact(apart n x z h0 h1 h2).elim
        ·exact(apart n z x h0 h2 h1).elim
        ·exact a2.one n x z h0 h1 h2
       ·rw[HasGL] at h1
        rcases h1 with h1 | h1
        ·exact a1.nest n x z h0 h1
        ·exact a2.nest n x z h0 h1
   intro lv d g g' h;rw[form] at h
   split at h
   ·split at h
    ·rename_i hk
     split at h
     ·rename_i hn
      have a:=hL ks (fun _ h=>h) h;obtain⟨hn,_⟩:=hn
      have ole:∀ m x,m≠0→n=m→HasGL ks m x→False:=fun m x h0 e1 h1=>by
       obtain⟨u,f1,f2,f3⟩:=a.num m x h1;have:=y67 (hn.symm.trans (e1.trans f1)) (by rw[←hn,e1];exact h0);omega
      refine⟨by have:=a.le;omega,fun m x h=>?_,fun m x z h0 h1 h2=>?_,fun m x z h0 h1 h2=>?_⟩
      ·rw[HasG] at h
       rcases h with ⟨_,e1,_⟩ | h
       ·exact⟨g+1,by rw[←e1,hn],by omega,a.le⟩
       ·obtain⟨u,f1,f2,f3⟩:=a.num m x h;exact⟨u,f1,by omega,f3⟩
      ·rw[HasG] at h1 h2
       rcases h1 with ⟨_,e1,e2⟩ | h1 <;> rcases h2 with ⟨_,f1,f2⟩ | h2
       ·rw[e2] at f2;injection f2
       ·exact(ole m z h0 e1 h2).elim
       ·exact(ole m x h0 f1 h1).elim
       ·exact a.one m x z h0 h1 h2
      ·rw[HasG] at h1
       rcases h1 with ⟨_,e1,e2⟩ | h1
       ·exact ole m z h0 e1 (by rw[e2,HasGL];exact .inl h2)
       ·exact a.nest m x z h0 h1 h2
     ·cases h
    ·rename_i hk
     have a:=hL ks (fun _ h=>h) h;have e:∀ n' x,HasG (.mk k S ks lo hi n) n' x ↔ HasGL ks n' x:=fun n' x=>by rw[HasG];exact⟨fun h=>h.resolve_left fun h=>hk h.1,.inr⟩
     exact⟨a.le,fun n x h=>a.num n x ((e n x).1 h),fun n x y h0 h1 h2=>a.one n x y h0 ((e n x).1 h1) ((e n y).1 h2),fun n x y h0 h1=>a.nest n x y h0 ((e n x).1 h1)⟩
   ·cases h
theorem y96 (r:Re) (hF:Fine r):∀ (T:Nat→Re) (n:Nat) (x:Re),0<n→n<10→(∀ y,HasG r n y→y=x)→((∃ y,HasG r n y)∨T n=x)→gathT r T n=x:=by
 induction r using Re.ind with
 | h k S ks lo hi m ih=>
   intro T n x hn hn9 h1 h2
   have hL:∀ (l:List Re),(∀ r∈l,r∈ks)→∀ T,(∀ y,HasGL l n y→y=x)→((∃ y,HasGL l n y)∨T n=x)→gathL l T n=x:=by
    intro l
    induction l with
    | nil=>intro _ T _ h;rw[gathL];rcases h with ⟨y,h⟩ | h
           ·rw[HasGL] at h;exact h.elim
           ·exact h
    | cons z l ihl=>
      intro hx T h3 h4;rw[gathL];refine ihl (fun y hy=>hx y (List.mem_cons_of_mem _ hy)) _ (fun y hy=>h3 y (by rw[HasGL];exact .inr hy)) ?_;by_cases hc:∃ y,HasGL l n y
      ·exact .inl hc
      ·refine .inr (ih z (hx z (List.mem_cons_self ..)) (hF.kids (hx z (List.mem_cons_self ..))) T n x hn hn9 (fun y hy=>h3 y (by rw[HasGL];exact .inl hy)) ?_)
       rcases h4 with ⟨y,h4⟩ | h4
       ·rw[HasGL] at h4
        exact .inl ⟨y,h4.resolve_right fun h=>hc ⟨y,h⟩⟩
       ·exact .inr h4
   rw[gathT];refine hL ks (fun _ h=>h) _ (fun y hy=>h1 y (by rw[HasG];exact .inr hy)) ?_;by_cases hc:∃ y,HasGL ks n y
   ·exact .inl hc
   ·refine .inr ?_
    cases ks with
    | nil=>
      rw[gathS]
      rcases h2 with ⟨y,h2⟩ | h2
      ·rw[HasG] at h2
       rcases h2 with ⟨_,_,h2⟩ | h2
       ·cases h2
       ·exact(hc ⟨y,h2⟩).elim
      ·exact h2
    | cons z l=>
      rw[gathS]
      split
      ·rename_i hk
       unfold updT;by_cases hnm:n=m.toNat
       ·rw[if_pos hnm]
        cases l with
        | nil=>exact h1 z (by rw[HasG];exact .inl ⟨hk.1,by omega,rfl⟩)
        | cons z' l=>
          have:=hF.cases;simp only[Re.kind,Re.kids,hk.1] at this;simp at this
       ·rw[if_neg hnm]
        rcases h2 with ⟨y,h2⟩ | h2
        ·rw[HasG] at h2
         rcases h2 with ⟨_,h2,_⟩ | h2
         ·omega
         ·exact(hc ⟨y,h2⟩).elim
        ·exact h2
      ·rename_i hk
       rcases h2 with ⟨y,h2⟩ | h2
       ·rw[HasG] at h2
        rcases h2 with ⟨q1,q2,_⟩ | h2
        ·exact(hk ⟨q1,by omega,by omega⟩).elim
        ·exact(hc ⟨y,h2⟩).elim
       ·exact h2
structure GP (s:Bs) (H:Int→Re→Prop) (i j:Nat) (l:Evs):Prop where
 ev:∀ e∈l,e.n≠0∧∃ x,H e.n x
 at_:∀ n,(lastOf true n l= -1∧lastOf false n l= -1)∨∃ (a b:Nat) (x:Re),lastOf true n l=a∧lastOf false n l=b∧i≤a∧a≤b∧b≤j∧n≠0∧H n x∧Way s true true x a b
theorem GP.nil (s:Bs) (H:Int→Re→Prop) (i j:Nat):GP s H i j []:=⟨fun e he=>(by cases he),fun n=> .inl ⟨rfl,rfl⟩⟩
theorem GP.mono {s:Bs} {H H':Int→Re→Prop} {i j i' j':Nat} {l:Evs} (h:GP s H i j l) (hi:i'≤i) (hj:j≤j') (hH:∀ n x,H n x→H' n x):GP s H' i' j' l:=
 ⟨fun e he=>⟨(h.ev e he).1,(h.ev e he).2.imp fun x=>hH _ x⟩,fun n=>(h.at_ n).imp id fun ⟨a,b,x,h1,h2,h3,h4,h5,h6,h7,h8⟩=>⟨a,b,x,h1,h2,by omega,h4,by omega,h6,hH _ _ h7,h8⟩⟩
theorem GP.app {s:Bs} {H:Int→Re→Prop} {i j:Nat} {l l':Evs} (h:GP s H i j l) (h':GP s H i j l'):GP s H i j (l++l'):=by
 refine⟨fun e he=>(List.mem_append.1 he).elim (h.ev e) (h'.ev e),fun n=>?_⟩;rw[z2a,z2a]
 rcases h.at_ n with ⟨h1,h2⟩ | ⟨a,b,x,h1,h2,h3⟩
 ·rw[h1,h2];exact h'.at_ n
 ·refine .inr ⟨a,b,x,?_,?_,h3⟩
  ·rw[h1,if_neg (by omega)]
  ·rw[h2,if_neg (by omega)]
theorem z96 {b:Bool} {n:Int}:∀ {l:Evs},(∀ e∈l,e.n≠n)→lastOf b n l= -1
 | [],_=>rfl
 | e::l,h=>by rw[lastOf,if_neg (fun q=>h e (List.mem_cons_self ..) q.2)];exact z96 fun x hx=>h x (List.mem_cons_of_mem _ hx)
theorem z8e {s:Bs} {l:List Re} {i j:Nat} {e:Evs} (h:DerL s l i j e):i≤j:=by
 have h1:=z6w s (.mk 4 none4 l 0 0 0) i j e (by rw[Der];simpa using h);exact z7v s true true _ _ _ h1
theorem z6n {s:Bs} {l:List Re}:∀ {n i j:Nat} {e:Evs},TimesD (DerL s l) n i j e→i≤j
 | 0,_,_,_,h=>Nat.le_of_eq h.1
 | _+1,_,_,_,⟨_,_,_,h1,h2,_⟩=>Nat.le_trans (z6n h1) (z8e h2)
theorem x3n (s:Bs) (r:Re) (hF:Fine r):∀ {lv d g g':Nat},form r lv d g=some g'→∀ i j l,Der s r i j l→GP s (HasG r) i j l:=by
 induction r using Re.ind with
 | h k S ks lo hi n ih=>
   intro lv d g g' hf
   have hk:∃ lv d g g',formL ks lv d g=some g':=by
    have h:=hf;rw[form] at h
    split at h
    ·split at h
     ·split at h
      ·exact⟨_,_,_,_,h⟩
      ·cases h
     ·exact⟨_,_,_,_,h⟩
    ·cases h
   obtain⟨lv',d',g0,g1,hk⟩:=hk;have hkid:=y0u hk
   have hL:∀ (l:List Re),(∀ r∈l,r∈ks)→(∀ i j e,DerL s l i j e→GP s (HasGL ks) i j e)∧∀ i j e,DerA s l i j e→GP s (HasGL ks) i j e:=by
    intro l
    induction l with
    | nil=>intro _;refine⟨fun i j e h=>?_,fun i j e h=>?_⟩ <;> simp only[DerL,DerA] at h;rw[h.2];exact GP.nil ..
    | cons x l ihl=>
      intro hx;obtain⟨a1,a2⟩:=ihl fun y hy=>hx y (List.mem_cons_of_mem _ hy)
      have hm:=hx x (List.mem_cons_self ..);obtain⟨q,q',hq⟩:=hkid x hm;have hx0:∀ i j e,Der s x i j e→GP s (HasGL ks) i j e:=fun i j e h=>(ih x hm (hF.kids hm) hq i j e h).mono (Nat.le_refl _) (Nat.le_refl _) fun n y hy=>y2b hm hy
      refine⟨fun i j e h=>?_,fun i j e h=>?_⟩
      ·rw[DerL] at h
       obtain⟨m,l1,l2,h1,h2,rfl⟩:=h;have b1:=z7v s true true _ _ _ (z6w s _ _ _ _ h1);have b2:=z8e h2;exact((a1 _ _ _ h2).mono b1 (Nat.le_refl _) fun _ _ h=>h).app ((hx0 _ _ _ h1).mono (Nat.le_refl _) b2 fun _ _ h=>h)
      ·rw[DerA] at h
       exact h.elim (hx0 _ _ _) (a2 _ _ _)
   obtain⟨h1,h2⟩:=hL ks fun _ h=>h
   have hT:∀ n i j e,TimesD (DerL s ks) n i j e→GP s (HasGL ks) i j e:=by
    intro n
    induction n with
    | zero=>intro i j e h;rw[h.2];exact GP.nil ..
    | succ n ihn=>
      intro i j e h;have b0:=z6n h;obtain⟨m,l1,l2,q1,q2,rfl⟩:=h;have b1:=z6n q1;have b2:=z8e q2;exact((h1 _ _ _ q2).mono b1 (Nat.le_refl _) fun _ _ h=>h).app ((ihn _ _ _ q1).mono (Nat.le_refl _) b2 fun _ _ h=>h)
   have up:∀ i j e,GP s (HasGL ks) i j e→GP s (HasG (.mk k S ks lo hi n)) i j e:=fun i j e h=>h.mono (Nat.le_refl _) (Nat.le_refl _) fun n x hx=>by rw[HasG];exact .inr hx
   intro i j l h;rw[Der] at h
   split at h
   ·rw[h.2];exact GP.nil ..
   split at h
   ·rw[h.2];exact GP.nil ..
   split at h
   ·rw[h.2];exact GP.nil ..
   split at h
   ·rw[h.2];exact GP.nil ..
   split at h
   ·exact up _ _ _ (h2 _ _ _ h)
   split at h
   ·obtain⟨m,_,_,h⟩:=h;exact up _ _ _ (hT _ _ _ _ h)
   split at h
   ·rename_i k7
    obtain⟨l',q1,rfl⟩:=h;have a:=h1 _ _ _ q1;by_cases hn:n=0
    ·unfold mark;rw[if_pos hn,if_pos hn,List.append_nil];exact up _ _ _ a
    ·have hks:∃ x,ks=[x]:=by
      have:=hF.cases;simp only[Re.kind,Re.kids,k7] at this;simpa using this
     obtain⟨x,rfl⟩:=hks;have hG:=y0z _ hf;have hx:HasG (.mk k S [x] lo hi n) n x:=by rw[HasG];exact .inl ⟨k7,rfl,rfl⟩
     have hno:∀ e∈l',e.n≠n:=fun e he q=>by
      obtain⟨_,y,hy⟩:=a.ev e he;rw[q,HasGL,HasGL] at hy;exact hG.nest n x y hn hx (hy.resolve_right id)
     have hle:=z8e q1;refine⟨fun e he=>?_,fun m=>?_⟩
     ·unfold mark at he
      rw[if_neg hn,if_neg hn,List.mem_cons,List.mem_append,List.mem_singleton] at he
      rcases he with rfl | he | rfl
      ·exact⟨hn,x,hx⟩
      ·exact(up _ _ _ a).ev e he
      ·exact⟨hn,x,hx⟩
     ·by_cases hm:m=n
      ·subst hm
       refine .inr ⟨i,j,x,?_,z4i hn,Nat.le_refl _,hle,Nat.le_refl _,hn,hx,?_⟩
       ·rw[z2x (.inr (by decide)),z2a,z96 hno,if_pos (by omega),z4i hn]
       ·obtain⟨m,l1,l2,q3,q4,_⟩:∃ m l1 l2,Der s x i m l1∧DerL s [] m j l2∧l'=l2++l1:=by rw[DerL] at q1;exact q1
        rw[DerL] at q4;rw[←q4.1];exact z6w s x _ _ _ q3
      ·have e1:∀ b,lastOf b m (mark false n j (l'++mark true n i []))=lastOf b m l':=fun b=>by
        rw[z2x (.inl hm),z2a,z2x (.inl hm),lastOf]
        split
        ·have:=y1p b m l';omega
        ·rfl
       rw[e1,e1];exact(up _ _ _ a).at_ m
   ·exact up _ _ _ (h1 _ _ _ h)
theorem y6f {s:Bs} {r:Re} (hR:∃ g,form r 3 0 0=some g) {i j:Nat} {l l':Evs} (h:Der s r i j l) (he:SameE l' l) (n:Nat) (hn:0<n) (h9:n<10):
  (lastOf true n l'= -1∧lastOf false n l'= -1)∨∃ a b:Nat,lastOf true n l'=a∧lastOf false n l'=b∧i≤a∧a≤b∧b≤j∧Way s true true (gathT r (fun _=>re0) n) a b:=by
 obtain⟨g,hg⟩:=hR;have hF:=z36 r (by decide) hg;rw[he,he];refine((x3n s r hF hg i j l h).at_ n).imp id fun ⟨a,b,x,h1,h2,h3,h4,h5,h6,h7,h8⟩=>⟨a,b,h1,h2,h3,h4,h5,?_⟩
 rw[y96 r hF _ n x hn h9 (fun y hy=>(y0z r hg).one n y x h6 hy h7) (.inl ⟨x,h7⟩)];exact h8
end Go.Proofs.YtejgbpbljdhndaaDoor
