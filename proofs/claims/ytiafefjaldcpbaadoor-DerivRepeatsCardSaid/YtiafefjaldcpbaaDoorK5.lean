import Derived.Laws.StructEq
import Derived.Test.YtiafefjaldcpbaaDoorL10
import Derived.Lib.AppendZerosOnto
import Derived.Lib.Overlaps
import Derived.Laws.CopyOwn
import Derived.Deep.RegionLaw
import Derived.Laws.NewBlocks
namespace Go.Proofs.YtiafefjaldcpbaaDoor
open Go Go.RowKit
set_option maxRecDepth 100000
set_option maxHeartbeats 4000000
theorem under98:Tryd.prog.underlying 98=some (.struct (Tryd.prog.fieldsOf 98)):=by kernel_rfl
theorem held98:Tryd.prog.stoodInHeld 98=false:=by kernel_rfl
theorem fields98:(Tryd.prog.fieldsOf 98).toList.map (fun f=>(f.name,f.type,f.offset))=[("turn",3,0),("times",90,1)]:=by kernel_rfl
theorem within_neq (x y x' y':Int) (w:World):(binOp .neq 98 (.agg #[.int .i64 x,.int .u64 y]) (.agg #[.int .i64 x',.int .u64 y'])).run Tryd.prog w= .ok (.bool (!(x==x' && y==y'))) w:=by
 have hf:=fields98;rw[run_neq_struct,run_equalIn_struct w 9999 98 _ _ under98 held98];generalize (Tryd.prog.fieldsOf 98).toList=L at hf ⊢
 rcases L with _ | ⟨f,_ | ⟨g,_ | ⟨h,L⟩⟩⟩
 ·simp at hf
 ·simp at hf
 ·simp only[List.map_cons,List.map_nil,List.cons.injEq,Prod.mk.injEq,and_true] at hf
  obtain⟨⟨f1,f2,f3⟩,⟨g1,g2,g3⟩⟩:=hf;by_cases hx:x=x' <;> by_cases hyy:y=y' <;> simp[Op.eqFields,f1,f2,f3,g1,g2,g3,go_sem,run_equalIn_int _ 9998 3 _ _ _ _ Tryd.underlying3,run_equalIn_int _ 9998 90 _ _ _ _ Tryd.underlying90,hx,hyy]
 ·simp at hf
theorem within_no (x y:Int) (w:World):(binOp .neq 98 (.agg #[.int .i64 x,.int .u64 y]) (.agg #[.int .i64 x,.int .u64 y])).run Tryd.prog w= .ok (.bool false) w:=by rw[within_neq];simp
theorem within_yes (x y x' y':Int) (h:¬ (x=x'∧y=y')) (w:World):(binOp .neq 98 (.agg #[.int .i64 x,.int .u64 y]) (.agg #[.int .i64 x',.int .u64 y'])).run Tryd.prog w= .ok (.bool true) w:=by
 rw[within_neq];by_cases h1:x=x' <;> by_cases h2:y=y' <;> simp_all
theorem take_eq {α:Type} {a b:List α} {k:Nat} {p:α} (h:a.take k=b.take k) (h1:a[k]?=some p) (h2:b[k]?=some p):a.take (k+1)=b.take (k+1):=by
 obtain⟨hk,e⟩:=List.getElem?_eq_some_iff.1 h1;obtain⟨hk',e'⟩:=List.getElem?_eq_some_iff.1 h2;rw[List.take_succ_eq_append_getElem hk,List.take_succ_eq_append_getElem hk',h,e,e']
theorem not_eq {α:Type} {a b:List α} {k:Nat} {p q:α} (h1:a[k]?=some p) (h2:b[k]?=some q) (h:p≠q):a≠b:=by
 rintro rfl;rw[h1] at h2;injection h2 with h2;exact h h2
noncomputable def eqB (a b:List (Nat × Nat)):Bool:=@decide (a=b) (Classical.propDecidable _)
theorem eqB_no {a b:List (Nat × Nat)} (h:a≠b):eqB a b=false:=@decide_eq_false _ (Classical.propDecidable _) h
theorem eqB_yes {a b:List (Nat × Nat)} (h:a=b):eqB a b=true:=@decide_eq_true _ (Classical.propDecidable _) h
theorem eqB_of {a b:List (Nat × Nat)} (h:eqB a b=true):a=b:=@of_decide_eq_true _ (Classical.propDecidable _) h
theorem wsEqual_any {P:Nat→Prop} (A A':Option Addr) (c c':Nat) (l l':List (Nat × Nat)) (w:World) (h:WsAt P w A l) (h':WsAt P w A' l') (hm:l.length≤1000000) (hm':l'.length≤1000000):
  Calls Tryd.prog 48 #[.slice A l.length c,.slice A' l'.length c'] w fun e w'=>e= .returned (.bool (eqB l l'))∧∃ m,w'=w.drewN m:=by
 obtain⟨n,hn⟩:∃ n,n=l.length:=⟨_,rfl⟩;obtain⟨n',hn'⟩:∃ n,n=l'.length:=⟨_,rfl⟩;obtain⟨v,hv⟩:∃ v,v=eqB l l':=⟨_,rfl⟩;rw[←hn,←hn',←hv];rw[←hn] at hm;rw[←hn'] at hm';have HN:=Lib.hid hn;have HN':=Lib.hid hn';have HR:=Lib.hid h;have HR':=Lib.hid h';have HV:=Lib.hid hv;clear hn hn' h h' hv;by_cases e:n=n'
 ·subst e
  suffices hs:Calls Tryd.prog 48 #[.slice A n c,.slice A' n c'] w fun e w'=>e= .returned (.bool v)∧Hid (∃ m,w'=w.drewN m) from hs.mono fun e w' ⟨a,b⟩=>⟨a,b.out⟩
  go_enter Tryd.func48,Tryd.ntmps48;go_wp2
  go_loopw [13] (fun i wr=>∃ (k m:Nat),k≤n∧i= .int .i64 k∧l.take k=l'.take k∧wr=w.drewN m) (fun i _=>n - (intOf i).toNat)
  case atStart=>exact⟨0,0,by omega,rfl,rfl,rfl⟩
  case round=>
   obtain⟨k,m,hk,rfl,ht,rfl⟩:=hrel;have HT:=Lib.hid ht;clear ht;by_cases a:k<n
   ·obtain⟨p,hp⟩:=get_of_lt HN.out a
    obtain⟨q,hq⟩:=get_of_lt HN'.out a;obtain⟨ad,rfl,_,c0,c1⟩:=HR.out k p hp;obtain⟨ad',rfl,_,d0,d1⟩:=HR'.out k q hq;by_cases hpq:p=q
    ·subst hpq
     have HX:Hid (l.take (k+1)=l'.take (k+1)):=Lib.hid (take_eq HT.out hp hq);have hz:=fun W:World=>within_no p.1 p.2 W
     clear hp hq;go_wp2;go_quiet (fail);go_wp2
     go_roundw
     case rel=>exact⟨k+1,_,by omega,by go_num,HX.out,rfl⟩
     case measure=>simp[intOf];omega
    ·have HX:Hid (v=false):=Lib.hid (by rw[HV.out];exact eqB_no (not_eq hp hq hpq))
     have hz:=fun W:World=>within_yes p.1 p.2 q.1 q.2 (fun ⟨a,b⟩=>hpq (Prod.ext (by omega) (by omega))) W
     clear hp hq hpq;go_wp2;go_quiet (fail);go_wp2;go_ret;exact⟨ret_bool HX.out.symm,Lib.hid ⟨_,World.drewN_drewN _ _ _⟩⟩
   ·have HX:Hid (v=true):=by
     apply Lib.hid;rw[HV.out];have:=HT.out;rw[List.take_of_length_le (by have:=HN.out;omega),List.take_of_length_le (by have:=HN'.out;omega)] at this;exact eqB_yes this
    go_wp2;go_ret;exact⟨ret_bool HX.out.symm,Lib.hid ⟨_,rfl⟩⟩
 ·have b1:((n:Int) != (n':Int))=true:=by simp;omega
  have b2:(n != n')=true:=by simp;omega
  have HX:Hid (v=false):=Lib.hid (by rw[HV.out];exact eqB_no (fun h=>e (by rw[HN.out,HN'.out,h])));clear e
  suffices hs:Calls Tryd.prog 48 #[.slice A n c,.slice A' n' c'] w fun e w'=>e= .returned (.bool v)∧w=w' from hs.mono fun e w' ⟨a,b⟩=>⟨a,0,b.symm⟩
  go_enter Tryd.func48,Tryd.ntmps48;go_wp2;go_ret;exact⟨ret_bool HX.out.symm,rfl⟩
theorem same_clo {P:Nat→Prop} (A A':Option Addr) (c c' kb:Nat) (l l':List (Nat × Nat)) (w:World) (h:WsAt P w A l) (h':WsAt P w A' l') (hk:w.cell? ⟨kb,0,none⟩=some (.slice A' l'.length c')) (hm:l.length≤1000000) (hm':l'.length≤1000000):
  Calls Tryd.prog 47 #[.slice A l.length c,.pointer (some ⟨kb,0,none⟩)] w fun e w'=>e= .returned (.bool (eqB l l'))∧∃ m,w'=w.drewN m:=by
 have HC:=Lib.hid (wsEqual_any A A' c c' l l' w h h' hm hm');obtain⟨n,hn⟩:∃ n,n=l.length:=⟨_,rfl⟩;obtain⟨n',hn'⟩:∃ n,n=l'.length:=⟨_,rfl⟩;obtain⟨v,hv⟩:∃ v,v=eqB l l':=⟨_,rfl⟩;rw[←hn,←hn',←hv] at HC;rw[←hn,←hv];rw[←hn'] at hk;clear h h' hn hn' hv hm hm';go_enter Tryd.func47,Tryd.ntmps47;go_wp2_with (go_at_call 48;((with_reducible refine(HC.out).mono ?_));rintro e w1 ⟨rfl,m,rfl⟩);go_ret;exact⟨rfl,m,rfl⟩
def IdxOf (tc:Turns) (l:List (Nat × Nat)) (r:Int):Prop:=r= -1∨∃ i:Nat,r=i∧tc[i]?=some l
theorem indexFunc_any {P:Nat→Prop} (ad:Addr) (A':Option Addr) (cp c' kb:Nat) (tc:Turns) (l':List (Nat × Nat)) (w:World) (h:TurnsAt P w ad tc) (h':WsAt P w A' l') (hk:w.cell? ⟨kb,0,none⟩=some (.slice A' l'.length c')) (hn:tc.length≤1000000) (hm:∀ (t:Nat) (l:List (Nat × Nat)),tc[t]?=some l→l.length≤1000000) (hm':l'.length≤1000000):
  Calls Tryd.prog 49 #[.slice (some ad) tc.length cp,.func (.func 47) #[] #[.pointer (some ⟨kb,0,none⟩)]] w fun e w'=>∃ r:Int,e= .returned (.int .i64 r)∧IdxOf tc l' r∧∃ m,w'=w.drewN m:=by
 have HC:Hid (∀ (k:Nat) (l:List (Nat × Nat)) (m:Nat),tc[k]?=some l→∃ A c,(w.drewN m).cell? (ad.add k)=some (.slice A l.length c)∧Calls Tryd.prog 47 #[.slice A l.length c,.pointer (some ⟨kb,0,none⟩)] (w.drewN m) fun e w'=>e= .returned (.bool (eqB l l'))∧∃ m',w'=(w.drewN m).drewN m'):=Lib.hid fun k l m hl=>by
  obtain⟨A,c,h1,h2⟩:=h.2 k l hl;exact⟨A,c,h1,same_clo A A' c c' kb l l' (w.drewN m) h2 h' hk (hm k l hl) hm'⟩
 obtain⟨n,hn2⟩:∃ n,n=tc.length:=⟨_,rfl⟩;have HN:=Lib.hid hn2;rw[←hn2];rw[←hn2] at hn;clear h h' hk hm hm' hn2
 suffices hs:Calls Tryd.prog 49 #[.slice (some ad) n cp,.func (.func 47) #[] #[.pointer (some ⟨kb,0,none⟩)]] w fun e w'=>Hid (∃ r:Int,e= .returned (.int .i64 r)∧IdxOf tc l' r∧∃ m,w'=w.drewN m) from hs.mono fun e w' h=>h.out
 go_enter Tryd.func49,Tryd.ntmps49;go_wp2
 go_loopw [8] (fun i wr=>∃ (k m:Nat),k≤n∧i= .int .i64 k∧wr=w.drewN m) (fun i _=>n - (intOf i).toNat)
 case atStart=>exact⟨0,0,by omega,rfl,rfl⟩
 case round=>
  obtain⟨k,m,hk,rfl,rfl⟩:=hrel;by_cases a:k<n
  ·obtain⟨l,hl⟩:=get_of_lt HN.out a
   obtain⟨A,c,d0,hcall⟩:=HC.out k l m hl;have HCL:=Lib.hid hcall;have HL:=Lib.hid hl;have HA:=Lib.hid a;have HE:Hid (eqB l l'=true→tc[k]?=some l'):=Lib.hid fun q=>by rw[hl,eqB_of q]
   obtain⟨b,hb⟩:∃ b,b=eqB l l':=⟨_,rfl⟩;rw[←hb] at HCL HE;obtain⟨ln,hln⟩:∃ v,v=l.length:=⟨_,rfl⟩;rw[←hln] at HCL d0;clear hcall hl hb hln
   cases b with
   | true=>
     go_wp2_with (go_at_call 47;((with_reducible refine(HCL.out).mono ?_));rintro e w1 ⟨rfl,m',rfl⟩);go_ret;exact Lib.hid ⟨_,rfl,.inr ⟨k,rfl,HE.out (by trivial)⟩,_,(by first | rfl | exact World.drewN_drewN _ _ _)⟩
   | false=>
     go_wp2_with (go_at_call 47;((with_reducible refine(HCL.out).mono ?_));rintro e w1 ⟨rfl,m',rfl⟩)
     go_roundw
     case rel=>exact⟨k+1,_,by have:=HA.out;omega,by go_num,(by first | rfl | exact World.drewN_drewN _ _ _)⟩
     case measure=>have:=HA.out;simp[intOf];omega
  ·go_wp2
   go_ret;exact Lib.hid ⟨_,rfl,.inl rfl,_,rfl⟩
def cmpI (x y:Int):Int:=if x<y then -1 else if y<x then 1 else 0
theorem isnan_any (x:Int) (w:World):Calls Tryd.prog 79 #[.int .i64 x] w fun e w'=>e= .returned (.bool false)∧w'=w:=by
 go_enter Tryd.func79,Tryd.ntmps79;go_wp2;go_ret;exact⟨by simp,rfl⟩
theorem compare_any (x y:Int) (w:World):Calls Tryd.prog 65 #[.int .i64 x,.int .i64 y] w fun e w'=>e= .returned (.int .i64 (cmpI x y))∧w'=w:=by
 obtain⟨v,hv⟩:∃ v,v=cmpI x y:=⟨_,rfl⟩;rw[←hv];unfold cmpI at hv;have KN:=fun x w=>Lib.hid (isnan_any x w)
 by_cases h1:x<y
 ·rw[if_pos h1] at hv
  have b1:decide (x<y)=true:=by simp[h1]
  have HV:=Lib.hid hv;clear hv;go_enter Tryd.func65,Tryd.ntmps65;go_wp2_with (go_at_call 79;((with_reducible refine((KN _ _).out).mono ?_));rintro e w1 ⟨rfl,rfl⟩);go_ret;exact⟨by rw[HV.out];rfl,rfl⟩
 ·rw[if_neg h1] at hv
  have b1:decide (x<y)=false:=by simp;omega
  by_cases h2:y<x
  ·rw[if_pos h2] at hv
   have b2:decide (y<x)=true:=by simp[h2]
   have HV:=Lib.hid hv;clear hv;go_enter Tryd.func65,Tryd.ntmps65;go_wp2_with (go_at_call 79;((with_reducible refine((KN _ _).out).mono ?_));rintro e w1 ⟨rfl,rfl⟩);go_ret;exact⟨by rw[HV.out];rfl,rfl⟩
  ·rw[if_neg h2] at hv
   have b2:decide (y<x)=false:=by simp;omega
   have HV:=Lib.hid hv;clear hv;go_enter Tryd.func65,Tryd.ntmps65;go_wp2_with (go_at_call 79;((with_reducible refine((KN _ _).out).mono ?_));rintro e w1 ⟨rfl,rfl⟩);go_ret;exact⟨by rw[HV.out];rfl,rfl⟩
theorem cmp_clo (t ts y:Int) (w:World):Calls Tryd.prog 64 #[.agg #[.int .i64 t,.int .u64 ts],.int .i64 y] w fun e w'=>e= .returned (.int .i64 (cmpI t y))∧Below w.heap.size w w':=by
 have KC:=fun w=>Lib.hid (compare_any t y w)
 obtain⟨v,hv⟩:∃ v,v=cmpI t y:=⟨_,rfl⟩;rw[←hv] at KC;rw[←hv];clear hv;go_enter Tryd.func64,Tryd.ntmps64;go_wp2_with (go_at_call 65;((with_reducible refine((KC _).out).mono ?_));rintro e w1 ⟨rfl,rfl⟩);go_ret;exact⟨rfl,one_box _ _⟩
theorem cmp_zero {x y:Int} (h:cmpI x y=0):x=y:=by
 unfold cmpI at h
 split at h
 ·omega
 ·split at h <;> omega
def BinOf (l:List (Nat × Nat)) (to:Nat) (p:Nat) (f:Bool):Prop:=p≤l.length∧(f=true→∃ x,l[p]?=some x∧x.1=to)
theorem binSearch_any (A:Option Addr) (c to:Nat) (l:List (Nat × Nat)) (w:World) (h:WsAt (Lt w.heap.size) w A l) (hm:l.length≤1000000):
  Calls Tryd.prog 63 #[.slice A l.length c,.int .i64 to,.func (.func 64) #[] #[]] w fun e w'=>∃ p f,e= .returned (.tuple #[.int .i64 (p:Nat),.bool f])∧BinOf l to p f∧Below w.heap.size w w':=by
 have KC:=fun t ts w=>Lib.hid (cmp_clo t ts to w)
 obtain⟨n,hn⟩:∃ n,n=l.length:=⟨_,rfl⟩;have HN:=Lib.hid hn;have HW:Hid (∀ wr,Below w.heap.size w wr→WsAt (Lt w.heap.size) wr A l):=Lib.hid fun wr hb=>h.keep (same_below hb)
 rw[←hn];rw[←hn] at hm;clear hn h
 suffices hs:Calls Tryd.prog 63 #[.slice A n c,.int .i64 to,.func (.func 64) #[] #[]] w fun e w'=>Hid (∃ p f,e= .returned (.tuple #[.int .i64 (p:Nat),.bool f])∧BinOf l to p f∧Below w.heap.size w w') from hs.mono fun e w' h=>h.out
 go_enter Tryd.func63,Tryd.ntmps63;go_wp2
 go_loopw [9,10] (fun i j wr=>∃ a b:Nat,a≤b∧b≤n∧i= .int .i64 a∧j= .int .i64 b∧Below w.heap.size w wr) (fun i j _=>(intOf j - intOf i).toNat)
 case atStart=>exact⟨0,n,Nat.zero_le _,Nat.le_refl _,rfl,rfl,Below.refl _ _⟩
 case round=>
  obtain⟨a,b,hab,hbn,rfl,rfl,hb⟩:=hrel;have HB:=Lib.hid hb;have HAB:=Lib.hid (And.intro hab hbn);clear hb;by_cases hlt:a<b
  ·obtain⟨s,hs⟩:∃ s,s=a+b:=⟨_,rfl⟩
   obtain⟨m,hm2⟩:∃ m,m=(a+b) / 2:=⟨_,rfl⟩;have e0:(a:Int)+(b:Int)=(s:Int):=by omega
   have e1:IntKind.u64.wrap (s:Int)=(s:Int):=by rw[wrapU];omega
   have e2:(s:Int) / 2=(m:Int):=by omega
   have hmn:m<n:=by omega
   have hmb:a≤m∧m<b:=by omega
   have HMB:=Lib.hid hmb;have HLT:=Lib.hid hlt;have b0:decide ((a:Int)<(b:Int))=true:=by simp;omega
   have b0':decide (a<b)=true:=by simp;omega
   obtain⟨x,hx⟩:=get_of_lt HN.out hmn;obtain⟨ad,rfl,had,d0,d1⟩:=HW.out wr HB.out m x hx;obtain⟨v,hv⟩:∃ v,v=cmpI x.1 to:=⟨_,rfl⟩;have HC:Hid (Calls Tryd.prog 64 #[.agg #[.int .i64 (x.1:Nat),.int .u64 (x.2:Nat)],.int .i64 to] wr fun e w'=>e= .returned (.int .i64 v)∧Below wr.heap.size wr w'):=Lib.hid (by rw[hv];exact(KC x.1 x.2 wr).out);by_cases h0:v<0
   ·have b1:decide (v<0)=true:=by simp[h0]
    clear hs hm2 hx had hv h0 hab hbn hmb hlt;go_wp2_with (go_at_call 64;((with_reducible refine(HC.out).mono ?_));rintro e w1 ⟨rfl,hb1⟩;have HB1:=Lib.hid hb1;clear hb1)
    go_roundw
    case rel=>exact⟨m+1,b,by have:=HMB.out;omega,HAB.out.2,by go_num,rfl,HB.out.trans (HB1.out.mono HB.out.size)⟩
    case measure=>have:=HMB.out;have:=HLT.out;simp[intOf];omega
   ·have b1:decide (v<0)=false:=by simp;omega
    clear hs hm2 hx had hv h0 hab hbn hmb hlt;go_wp2_with (go_at_call 64;((with_reducible refine(HC.out).mono ?_));rintro e w1 ⟨rfl,hb1⟩;have HB1:=Lib.hid hb1;clear hb1)
    go_roundw
    case rel=>exact⟨a,m,by have:=HMB.out;omega,by have:=HMB.out;have:=HAB.out;omega,rfl,rfl,HB.out.trans (HB1.out.mono HB.out.size)⟩
    case measure=>have:=HMB.out;have:=HLT.out;simp[intOf];omega
  ·have b0:decide ((a:Int)<(b:Int))=false:=by simp;omega
   have b0':decide (a<b)=false:=by simp;omega
   clear hab hbn hlt;by_cases hn2:a<n
   ·have b2:decide ((a:Int)<(n:Int))=true:=by simp;omega
    have b2':decide (a<n)=true:=by simp;omega
    obtain⟨x,hx⟩:=get_of_lt HN.out hn2;obtain⟨ad,rfl,had,d0,d1⟩:=HW.out wr HB.out a x hx;obtain⟨v,hv⟩:∃ v,v=cmpI x.1 to:=⟨_,rfl⟩;have HC:Hid (Calls Tryd.prog 64 #[.agg #[.int .i64 (x.1:Nat),.int .u64 (x.2:Nat)],.int .i64 to] wr fun e w'=>e= .returned (.int .i64 v)∧Below wr.heap.size wr w'):=Lib.hid (by rw[hv];exact(KC x.1 x.2 wr).out);have HX:=Lib.hid hx;by_cases h0:v=0
    ·have hz:(x.1:Int)=(to:Int):=cmp_zero (by rw[←hv];exact h0)
     have HZ:=Lib.hid hz;have b1:(v==0)=true:=by simp[h0]
     have HA:=Lib.hid hn2;clear hx had hv h0 hz hn2;go_wp2_with (go_at_call 64;((with_reducible refine(HC.out).mono ?_));rintro e w1 ⟨rfl,hb1⟩;have HB1:=Lib.hid hb1;clear hb1)
     go_ret2
     exact Lib.hid ⟨a,true,rfl,⟨by rw[←HN.out];exact Nat.le_trans HAB.out.1 HAB.out.2,fun _=>⟨x,HX.out,by have:=HZ.out;omega⟩⟩,HB.out.trans (HB1.out.mono HB.out.size)⟩
    ·have b1:(v==0)=false:=by simp[h0]
     clear hx had hv h0;go_wp2_with (go_at_call 64;((with_reducible refine(HC.out).mono ?_));rintro e w1 ⟨rfl,hb1⟩;have HB1:=Lib.hid hb1;clear hb1)
     go_ret2
     exact Lib.hid ⟨a,false,rfl,⟨by rw[←HN.out];exact Nat.le_trans HAB.out.1 HAB.out.2,fun q=>by cases q⟩,HB.out.trans (HB1.out.mono HB.out.size)⟩
   ·have b2:decide ((a:Int)<(n:Int))=false:=by simp;omega
    have b2':decide (a<n)=false:=by simp;omega
    clear hn2;go_wp2
    go_ret2
    exact Lib.hid ⟨a,false,rfl,⟨by rw[←HN.out];exact Nat.le_trans HAB.out.1 HAB.out.2,fun q=>by cases q⟩,HB.out⟩
theorem info98:(Tryd.prog.info? 98).map (fun i=>(i.zero,i.size,i.bytes))=some (some (.agg #[.int .i64 0,.int .u64 0]),2,16):=by kernel_rfl
def cellsU (l:List (Nat × Nat)):List Value:=l.flatMap fun p=>[.int .i64 p.1,.int .u64 p.2]
theorem cellsU_length (l:List (Nat × Nat)):(cellsU l).length=l.length * 2:=by
 induction l with
 | nil=>rfl
 | cons p r ih=>unfold cellsU at ih ⊢;rw[List.flatMap_cons,List.length_append,ih];simp;omega
theorem cellsU_app (a b:List (Nat × Nat)):cellsU (a++b)=cellsU a++cellsU b:=by simp[cellsU]
theorem cellsU_1 (l:List (Nat × Nat)):∀ u∈cellsU l,u.oneCell'=true:=by
 intro u hu;unfold cellsU at hu;rw[List.mem_flatMap] at hu;obtain⟨p,_,hp⟩:=hu;simp only[List.mem_cons,List.not_mem_nil,or_false] at hp
 rcases hp with rfl | rfl <;> rfl
theorem cellsU_at {l:List (Nat × Nat)} {i:Nat} {x:Nat × Nat} (h:l[i]?=some x):(cellsU l)[i * 2]?=some (.int .i64 x.1)∧(cellsU l)[i * 2+1]?=some (.int .u64 x.2):=by
 induction l generalizing i with
 | nil=>simp at h
 | cons p r ih=>
   cases i with
   | zero=>injection h with h;subst h;exact⟨rfl,rfl⟩
   | succ i=>
     have:=ih (i:=i) (by simpa using h);rw[show (i+1) * 2=i * 2+2 by omega];exact this
theorem wsAt_own {B:Nat} {w:World} {v:Value} {l:List (Nat × Nat)} {A:Option Addr} {c:Nat} (h:w.ownsRow B 98 2 v l.length (cellsU l)) (hv:v= .slice A l.length c):WsAt (Lt w.heap.size) w A l:=by
 intro i x hi;subst hv;have hi2:=(List.getElem?_eq_some_iff.1 hi).1
 rcases h.2 with ⟨_,h0⟩ | ⟨g,cap,cur,hv,hb,hg,_⟩
 ·omega
 ·injection hv with hA _ _
  subst hA;obtain⟨q1,q2⟩:=cellsU_at hi;have c1:=h.cells (g:=g) rfl _ _ q1;have c2:=h.cells (g:=g) rfl _ _ q2;refine⟨⟨g,0,none⟩,rfl,(Array.getElem?_eq_some_iff.1 hg).1,c1,?_⟩;rw[add_one _ _ _ (by omega)];exact c2
theorem run_copy2 {P:Program} (w:World) (dT sT ty elem:TypeId) (g o dLen dCap:Nat) (a:Addr) (sLen sCap:Nat) (cur:Array Value) (t:TypeId) (cs:List Value)
  (hu:P.underlying dT=some (.slice elem)) (hs:(P.info? elem).map (·.size)=some 2) (hg:w.heap[g]?=some (.cells cur t (0,0))) (hn:cs.length=Nat.min sLen dLen * 2)
  (hsrc:∀ j v,cs[j]?=some v→w.cell? (a.add j)=some v) (hfit:o+cs.length≤cur.size) (h1:∀ v∈cs,v.oneCell'=true):
  (Builtin.copy_ #[dT,sT] ty #[.slice (some ⟨g,o,none⟩) dLen dCap,.slice (some a) sLen sCap]).run P w=
   .ok (goInt (Nat.min sLen dLen:Nat)) (w.setRow g (splice cur.toList o cs).toArray):=by
 have hl:=run_loadCells_list (P:=P) w a cs hsrc;have hst:=run_storeCells_at P g o t cs 0 cur w hg (by simpa using hfit) h1
 cases hq:P.info? elem with
 | none=>simp[hq] at hs
 | some i=>
   have hi:i.size=2:=by simpa[hq] using hs
   have hmin:min sLen dLen * 2=cs.length:=hn.symm;simp[Builtin.copy_,run_underlying hu,Builtin.lenOf,Builtin.firstCells,sizeOf,typeInfo,hq,hi,hmin,hl,hst,splice]
theorem splice_get {L cs:List Value} {o j:Nat} (h:o+cs.length≤L.length):(splice L o cs)[j]?=if j<o then L[j]? else if j<o+cs.length then cs[j - o]? else L[j]?:=by
 unfold splice;rw[List.getElem?_append,List.length_take,Nat.min_eq_left (by omega)]
 split
 ·rename_i h1;rw[List.getElem?_take,if_pos h1]
 ·rename_i h1
  rw[List.getElem?_append]
  split
  ·rename_i h2;rw[if_pos (by omega)]
  ·rename_i h2
   rw[if_neg (by omega),List.getElem?_drop]
   congr 1;omega
theorem splice_len {L cs:List Value} {o:Nat} (h:o+cs.length≤L.length):(splice L o cs).length=L.length:=length_splice L o cs h
theorem splice_in1 {cur X1 Y X2:List Value} {a:Nat} (h1:cur.take a=X1) (ha:X1.length=a) (hl:a+Y.length+X2.length≤cur.length):
  (splice (splice cur (a+Y.length) X2) a Y).take (a+Y.length+X2.length)=X1++(Y++X2):=by
 have l1:=splice_len (L:=cur) (cs:=X2) (o:=a+Y.length) hl;apply List.ext_getElem?;intro j;rw[List.getElem?_take,splice_get (by rw[l1];omega),splice_get hl,List.getElem?_append,List.getElem?_append,ha];by_cases c1:j<a
 ·rw[if_pos (by omega),if_pos c1,if_pos (by omega),if_pos c1,←h1,List.getElem?_take,if_pos c1]
 ·by_cases c2:j<a+Y.length
  ·rw[if_pos (by omega),if_neg c1,if_pos c2,if_neg c1,if_pos (by omega)]
  ·by_cases c3:j<a+Y.length+X2.length
   ·rw[if_pos c3,if_neg c1,if_neg c2,if_neg c2,if_pos c3,if_neg c1,if_neg (by omega)]
    congr 1;omega
   ·rw[if_neg c3,if_neg c1,if_neg (by omega),List.getElem?_eq_none (by omega)]
theorem splice_in2 {cur X1 Y X2:List Value} {a:Nat} (h1:cur.take a=X1) (ha:X1.length=a) (hl:a+Y.length+X2.length≤cur.length):
  (splice (splice cur a Y) (a+Y.length) X2).take (a+Y.length+X2.length)=X1++(Y++X2):=by
 have l1:=splice_len (L:=cur) (cs:=Y) (o:=a) (by omega);apply List.ext_getElem?;intro j;rw[List.getElem?_take,splice_get (by rw[l1];omega),splice_get (by omega),List.getElem?_append,List.getElem?_append,ha];by_cases c1:j<a
 ·rw[if_pos (by omega),if_pos (by omega),if_pos c1,if_pos c1,←h1,List.getElem?_take,if_pos c1]
 ·by_cases c2:j<a+Y.length
  ·rw[if_pos (by omega),if_pos c2,if_neg c1,if_pos c2,if_neg c1,if_pos (by omega)]
  ·by_cases c3:j<a+Y.length+X2.length
   ·rw[if_pos c3,if_neg c2,if_pos c3,if_neg c1,if_neg (by omega)]
    congr 1;omega
   ·rw[if_neg c3,if_neg c1,if_neg (by omega),List.getElem?_eq_none (by omega)]
def insAt (l:List (Nat × Nat)) (i:Nat) (x:Nat × Nat):List (Nat × Nat):=l.take i++x::l.drop i
def InsPost (B:Nat) (w:World) (v:Value) (l:List (Nat × Nat)) (i:Nat) (x:Nat × Nat) (e:Ending) (w':World):Prop:=
 ∃ v',e= .returned v'∧w'.ownsRow B 98 2 v' (l.length+1) (cellsU (insAt l i x))∧w.grownBy w' v.ownBlock∧∀ g,v'.ownBlock=some g→v.ownBlock=some g∨w.heap.size≤g
theorem append_types (ty:TypeId) (v u:Value) (w:World):(Builtin.append_ #[93,92] ty #[v,u]).run Tryd.prog w=(Builtin.append_ #[93,93] ty #[v,u]).run Tryd.prog w:=by
 cases v <;> simp[Builtin.append_,run_underlying Tryd.underlying93,run_underlying Tryd.underlying92,Tryd.sizeOf98]
theorem wpList_append_eq {P:Program} (w:World) {ops:Array Oper} {rest:List Oper} {o:Oper} {a:Act} {Q:Exit→Act→World→Prop} (hgd:o.guard=none) (s x:Operand) (t t':TypeId)
  (ho:o.op= .call { callee:= .builtin .append,args:=#[s,x],argTypes:=#[t,t'] }) {v u v':Value} {w':World} (hs:a.eval s=v) (hx:a.eval x=u)
  (hr:(Builtin.append_ #[t,t'] o.type #[v,u]).run P w= .ok v' w') (h:wpList P ops Q rest (a.put o.dst v') w'):wpList P ops Q (o::rest) a w:=by
 refine wpList_plain hgd fun _ hK=>?_
 unfold Oper.wp execOp;simp only[ho,resolve,invoke,builtin,Sem.run_bind,Sem.run_pure,Result.andThen_ok,List.map_toArray,List.map_cons,List.map_nil,hs,hx,hr];exact hK _ _ h
theorem insert_end {B:Nat} {v:Value} {l:List (Nat × Nat)} {x:Nat × Nat} {w:World} {vb:Nat} (h:w.ownsRow B 98 2 v l.length (cellsU l)) (hB:B≤w.heap.size) (hm:l.length≤1000000) (hv0:w.cell? ⟨vb,0,none⟩=some (.int .i64 x.1)) (hv1:w.cell? ⟨vb,1,none⟩=some (.int .u64 x.2)):
  Calls Tryd.prog 66 #[v,.int .i64 l.length,.slice (some ⟨vb,0,none⟩) 1 1] w (InsPost B w v l l.length x):=by
 have hnews:∀ (j:Nat) (u:Value),([.int .i64 x.1,.int .u64 x.2]:List Value)[j]?=some u→w.cell? ((⟨vb,0,none⟩:Addr).add j)=some u:=by
  intro j u hu
  match j,hu with
  | 0,hu=>injection hu with hu;subst hu;exact hv0
  | 1,hu=>injection hu with hu;subst hu;exact hv1
  | j+2,hu=>simp at hu
 obtain⟨i0,hi0,hz0,hz1,hz2⟩:=info_parts info98;obtain⟨g3,cap3,w3,hrun,hown,hgrow,hg3,_⟩:=run_append_lies (P:=Tryd.prog) w 93 93 B 98 i0 (.agg #[.int .i64 0,.int .u64 0]) 2 16 Tryd.underlying93 hi0 hz0 hz1 hz2 rfl (by decide) v l.length (cellsU l) h ⟨vb,0,none⟩ 1 1 [.int .i64 x.1,.int .u64 x.2] rfl hnews (cellsU_1 [x]) (by decide) (by unfold maxLen;omega) (by omega) hB _ rfl;rw[←append_types] at hrun
 have HE:Hid (InsPost B w v l l.length x (.returned (.slice (some ⟨g3,0,none⟩) (l.length+1) cap3)) w3):=Lib.hid ⟨_,rfl,by unfold insAt;rw[List.take_length,List.drop_length,cellsU_app];exact hown,hgrow,fun g hg=>by
  have:g3=g:=by simpa[Value.ownBlock] using hg
  subst this
  rcases hg3 with h1 | h1
  ·exact .inl h1
  ·exact .inr (by omega)⟩
 have hcap:=h.2;obtain⟨n,hn⟩:∃ n,n=l.length:=⟨_,rfl⟩;rw[←hn] at hrun hm hcap;rw[←hn];rw[←hn] at HE;clear hnews hv0 hv1 h hown hgrow hg3 hB hi0 hz0 hz1 hz2
 rcases hcap with ⟨rfl,h0⟩ | ⟨g,cap,cur,rfl,_,_,hc,_⟩
 ·subst h0
  clear hn;go_enter Tryd.func66,Tryd.ntmps66;go_wp2_with (at_builtin;refine wpList_append_eq _ rfl (.tmp 23) (.tmp 24) 93 92 rfl rfl rfl hrun ?_);go_ret;exact HE.out
 ·clear hn
  by_cases he:cap=n
  ·subst he
   go_enter Tryd.func66,Tryd.ntmps66;go_wp2_with (at_builtin;refine wpList_append_eq _ rfl (.tmp 23) (.tmp 24) 93 92 rfl rfl rfl hrun ?_);go_ret;exact HE.out
  ·have hlt:n<cap:=by omega
   have b1:(cap==n)=false:=by simp[he]
   go_enter Tryd.func66,Tryd.ntmps66;go_wp2_with (at_builtin;refine wpList_append_eq _ rfl (.tmp 23) (.tmp 24) 93 92 rfl rfl rfl hrun ?_);go_ret;exact HE.out
theorem overlaps_no {w:World} {vb g o lb cb:Nat} {cur cv:Array Value} (hv:w.heap[vb]?=some (.cells cv 98 (0,0))) (hg:w.heap[g]?=some (.cells cur 98 (0,0))) (hne:vb≠g) (h0:cur.size≠0):
  (callFunc 80 #[.slice (some ⟨vb,0,none⟩) 1 1,.slice (some ⟨g,o,none⟩) lb cb]).run Tryd.prog w= .ok (.value (.bool false)) w:=by
 rw[run_callFunc_extern Tryd.func80 (by kernel_rfl) (by kernel_rfl) (by kernel_rfl) (e:=Extern.SlicesOverlaps.overlaps #[92,92] #[4]) (by kernel_rfl),
  Lib.run_overlaps_apart w 92 4 98 Tryd.underlying92 2 Tryd.sizeOf98 ⟨vb,0,none⟩ ⟨g,o,none⟩ 1 1 lb cb hne 98 98 cv.size cur.size (by unfold World.shape?;rw[hv]) (by unfold World.shape?;rw[hg]) h0 (row_free hv 0) (row_free hv _)]
 rfl
theorem insert_room {B g cap i n:Nat} {l:List (Nat × Nat)} {x:Nat × Nat} {w:World} {vb:Nat} {cur cv:Array Value} (hg:w.heap[g]?=some (.cells cur 98 (0,0))) (hcur:cur.size=cap * 2) (htk:cur.toList.take (n * 2)=cellsU l) (hn:n=l.length) (hi:i<n) (hr:n+1≤cap) (hcm:cap≤maxLen)
  (hv:w.heap[vb]?=some (.cells cv 98 (0,0))) (hne:vb≠g) (hv0:w.cell? ⟨vb,0,none⟩=some (.int .i64 x.1)) (hv1:w.cell? ⟨vb,1,none⟩=some (.int .u64 x.2)) (hm:n≤1000000) (hBg:B≤g):
  Calls Tryd.prog 66 #[.slice (some ⟨g,0,none⟩) n cap,.int .i64 i,.slice (some ⟨vb,0,none⟩) 1 1] w (InsPost B w (.slice (some ⟨g,0,none⟩) n cap) l i x):=by
 have hov:=fun o lb cb=>overlaps_no (o:=o) (lb:=lb) (cb:=cb) hv hg hne (by omega)
 have b1:decide ((cap:Int)<(n:Int)+1)=false:=by simp;omega
 have b0:((i:Int)==(n:Int))=false:=by simp;omega
 have b0':(i==n)=false:=by simp;omega
 have hn1:¬ cap=i:=by omega
 have hn2:¬ cap=i+1:=by omega
 have hll:(cellsU l).length=n * 2:=by rw[cellsU_length,hn]
 have hcl:cur.toList.length=cap * 2:=by simpa using hcur
 have hX2:((cellsU l).drop (i * 2)).length=(n - i) * 2:=by rw[List.length_drop,hll];omega
 have hmin:Nat.min (n+1 - i) (n+1 - (i+1))=n - i:=by simp only[Nat.min_def];split <;> omega
 have hsrc:∀ (j:Nat) (u:Value),((cellsU l).drop (i * 2))[j]?=some u→w.drew.cell? ((⟨g,i * 2,none⟩:Addr).add j)=some u:=by
  intro j u hu;have hj:=(List.getElem?_eq_some_iff.1 hu).1;rw[Addr.add_lit,row_cell (W:=w.drew) hg];rw[List.getElem?_drop,←htk,List.getElem?_take,if_pos (by omega)] at hu;rw[←Array.getElem?_toList];exact hu
 have hr1:=run_copy2 (P:=Tryd.prog) w.drew 93 93 3 98 g ((i+1) * 2) (n+1 - (i+1)) (cap - (i+1)) ⟨g,i * 2,none⟩ (n+1 - i) (cap - i) cur 98 ((cellsU l).drop (i * 2)) Tryd.underlying93 (by obtain⟨i0,hi0,_,h1,_⟩:=info_parts info98;rw[hi0];simp[h1]) hg (by rw[hX2,hmin]) hsrc (by rw[hX2];omega) (fun u hu=>cellsU_1 l u (List.mem_of_mem_drop hu));obtain⟨W1,hW1⟩:∃ W1,W1=w.drew.setRow g (splice cur.toList ((i+1) * 2) ((cellsU l).drop (i * 2))).toArray:=⟨_,rfl⟩;rw[←hW1,hmin] at hr1;rw[show n+1 - (i+1)=n - i by omega] at hr1;have hg1:W1.heap[g]?=some (.cells (splice cur.toList ((i+1) * 2) ((cellsU l).drop (i * 2))).toArray 98 (0,0)):=by rw[hW1];exact setRow_heap w.drew g cur _ 98 _ hg
 have l1:=splice_len (L:=cur.toList) (cs:=(cellsU l).drop (i * 2)) (o:=(i+1) * 2) (by rw[hX2,hcl];omega);have hv1':W1.heap[vb]?=some (.cells cv 98 (0,0)):=by rw[hW1,setRow_other w.drew g vb _ hne];exact hv
 have hnews:∀ (j:Nat) (u:Value),([.int .i64 x.1,.int .u64 x.2]:List Value)[j]?=some u→W1.cell? ((⟨vb,0,none⟩:Addr).add j)=some u:=by
  intro j u hu;have e:W1.heap[vb]?=w.heap[vb]?:=hv1'.trans hv.symm
  match j,hu with
  | 0,hu=>injection hu with hu;subst hu;exact(World.cell?_of_block (a:=⟨vb,0,none⟩) e).trans hv0
  | 1,hu=>injection hu with hu;subst hu;exact(World.cell?_of_block (a:=⟨vb,1,none⟩) e).trans hv1
  | j+2,hu=>simp at hu
 have hmin2:Nat.min 1 (n+1 - i)=1:=by simp only[Nat.min_def];split <;> omega
 have hr2:=run_copy2 (P:=Tryd.prog) W1 93 92 3 98 g (i * 2) (n+1 - i) (cap - i) ⟨vb,0,none⟩ 1 1 _ 98 [.int .i64 x.1,.int .u64 x.2] Tryd.underlying93 (by obtain⟨i0,hi0,_,h1,_⟩:=info_parts info98;rw[hi0];simp[h1]) hg1 (by rw[hmin2];rfl) hnews (by simp[l1];omega) (cellsU_1 [x]);obtain⟨W2,hW2⟩:∃ W2,W2=W1.setRow g (splice (splice cur.toList ((i+1) * 2) ((cellsU l).drop (i * 2))).toArray.toList (i * 2) [.int .i64 x.1,.int .u64 x.2]).toArray:=⟨_,rfl⟩;rw[←hW2,hmin2] at hr2
 have HE:Hid (InsPost B w (.slice (some ⟨g,0,none⟩) n cap) l i x (.returned (.slice (some ⟨g,0,none⟩) (n+1) cap)) W2):=Lib.hid (by
  refine⟨_,rfl,?_,?_,fun g' hg'=> .inl hg'⟩
  ·have hg2:W2.heap[g]?=some (.cells (splice (splice cur.toList ((i+1) * 2) ((cellsU l).drop (i * 2))).toArray.toList (i * 2) [.int .i64 x.1,.int .u64 x.2]).toArray 98 (0,0)):=by rw[hW2];exact setRow_heap W1 g _ _ 98 _ hg1
   have l2:=splice_len (L:=splice cur.toList ((i+1) * 2) ((cellsU l).drop (i * 2))) (cs:=[.int .i64 x.1,.int .u64 x.2]) (o:=i * 2) (by rw[l1,hcl];simp;omega);rw[←hn];refine⟨by rw[cellsU_length,show (insAt l i x).length=n+1 by unfold insAt;rw[List.length_append,List.length_take,List.length_cons,List.length_drop];omega],.inr ⟨g,cap,_,rfl,hBg,hg2,hr,hcm,?_,?_⟩⟩
   ·simp only[List.size_toArray];rw[l2,l1,hcl]
   ·have hh:=splice_in1 (cur:=cur.toList) (X1:=(cellsU l).take (i * 2)) (Y:=[.int .i64 x.1,.int .u64 x.2]) (X2:=(cellsU l).drop (i * 2)) (a:=i * 2) (by rw[←htk,List.take_take];congr 1;omega) (by rw[List.length_take,hll];omega) (by rw[hX2,hcl];simp;omega)
    simp only[List.length_cons,List.length_nil,hX2] at hh;rw[show i * 2+(0+1+1)=(i+1) * 2 by omega,show (i+1) * 2+(n - i) * 2=(n+1) * 2 by omega] at hh;rw[show (splice (splice cur.toList ((i+1) * 2) ((cellsU l).drop (i * 2))).toArray.toList (i * 2) [Value.int .i64 x.1,Value.int .u64 x.2]).toArray.toList=splice (splice cur.toList ((i+1) * 2) ((cellsU l).drop (i * 2))) (i * 2) [Value.int .i64 x.1,Value.int .u64 x.2] from rfl,hh];unfold insAt;rw[cellsU_app]
    have t1:cellsU (l.take i)=(cellsU l).take (i * 2):=by
     have:=cellsU_app (l.take i) (l.drop i);rw[List.take_append_drop] at this;rw[this,List.take_left' (by rw[cellsU_length,List.length_take];omega)]
    have t2:cellsU (l.drop i)=(cellsU l).drop (i * 2):=by
     have:=cellsU_app (l.take i) (l.drop i);rw[List.take_append_drop] at this;rw[this,List.drop_left' (by rw[cellsU_length,List.length_take];omega)]
    rw[t1,show cellsU (x::l.drop i)=[.int .i64 x.1,.int .u64 x.2]++cellsU (l.drop i) from rfl,t2]
  ·rw[hW2,hW1]
   refine⟨rfl,rfl,rfl,by simp[World.setRow],fun k _ hk=>?_⟩;have hkg:k≠g:=fun e=>hk (by rw[e];rfl)
   rw[setRow_other _ g k _ hkg,setRow_other _ g k _ hkg];rfl)
 unfold maxLen at hcm;clear hW2 hW1 hg1 l1 hv1' hnews hsrc hX2 hcl hll hmin hmin2 htk hcur hn hv hne hv0 hv1 hg;go_enter Tryd.func66,Tryd.ntmps66;go_wp2_with (simp only[hov]);refine wp_region_quiet_tail 8 (by kernel_rfl) (by kernel_rfl) ?_;simp only[List.take_succ_cons,List.take_zero,List.drop_succ_cons,List.drop_zero]
 repeat (go_big_quiet_step (fail))
 refine wpQuiet_nil ?_;go_wp2_with (first | (at_builtin;refine wpList_copy_eq _ rfl (.tmp 73) (.tmp 76) 93 93 rfl rfl rfl hr1 ?_) | (at_builtin;refine wpList_copy_eq _ rfl (.tmp 80) (.tmp 81) 93 92 rfl rfl rfl hr2 ?_));go_ret;exact HE.out
theorem cellsU_take (l:List (Nat × Nat)) (i:Nat) (h:i≤l.length):cellsU (l.take i)=(cellsU l).take (i * 2):=by
 have:=cellsU_app (l.take i) (l.drop i);rw[List.take_append_drop] at this;rw[this,List.take_left' (by rw[cellsU_length,List.length_take];omega)]
theorem cellsU_drop (l:List (Nat × Nat)) (i:Nat) (h:i≤l.length):cellsU (l.drop i)=(cellsU l).drop (i * 2):=by
 have:=cellsU_app (l.take i) (l.drop i);rw[List.take_append_drop] at this;rw[this,List.drop_left' (by rw[cellsU_length,List.length_take];omega)]
theorem insAt_length (l:List (Nat × Nat)) (i:Nat) (x:Nat × Nat):(insAt l i x).length=l.length+1:=by
 unfold insAt;rw[List.length_append,List.length_take,List.length_cons,List.length_drop];omega
theorem insert_grow {B g cap i n:Nat} {l:List (Nat × Nat)} {x:Nat × Nat} {w:World} {vb:Nat} {cur cv:Array Value} (hg:w.heap[g]?=some (.cells cur 98 (0,0))) (hcur:cur.size=cap * 2) (htk:cur.toList.take (n * 2)=cellsU l) (hn:n=l.length) (hi:i<n) (hnc:n≤cap) (hr:cap<n+1) (hcm:cap≤maxLen)
  (hv:w.heap[vb]?=some (.cells cv 98 (0,0))) (hv0:w.cell? ⟨vb,0,none⟩=some (.int .i64 x.1)) (hv1:w.cell? ⟨vb,1,none⟩=some (.int .u64 x.2)) (hm:n≤1000000) (hB:B≤w.heap.size):
  Calls Tryd.prog 66 #[.slice (some ⟨g,0,none⟩) n cap,.int .i64 i,.slice (some ⟨vb,0,none⟩) 1 1] w (InsPost B w (.slice (some ⟨g,0,none⟩) n cap) l i x):=by
 have hcap:cap=n:=by omega
 subst hcap;clear hnc hr;have b1:decide ((cap:Int)<(cap:Int)+1)=true:=by simp;omega
 have b0:((i:Int)==(cap:Int))=false:=by simp;omega
 have b0':(i==cap)=false:=by simp;omega
 have hll:(cellsU l).length=cap * 2:=by rw[cellsU_length,hn]
 have hcl:cur.toList.length=cap * 2:=by simpa using hcur
 have hcu:cur.toList=cellsU l:=by rw[←htk,List.take_of_length_le (by omega)]
 have hX2:((cellsU l).drop (i * 2)).length=(cap - i) * 2:=by rw[List.length_drop,hll];omega
 have hX1:((cellsU l).take (i * 2)).length=i * 2:=by rw[List.length_take,hll];omega
 have hgl:g<w.heap.size:=(Array.getElem?_eq_some_iff.1 hg).1;have hvl:vb<w.heap.size:=(Array.getElem?_eq_some_iff.1 hv).1;obtain⟨i0,hi0,hz0,hz1,hz2⟩:=info_parts info98;have hk:(cap:Int)+1 - (i:Int)=((cap+1 - i:Nat):Int):=by omega
 have hold:(Builtin.firstCells i0.size i (.slice (some ⟨g,0,none⟩) i cap)).run Tryd.prog w.drew= .ok ((cellsU l).take (i * 2)).toArray w.drew:=by
  rw[hz1];refine run_firstCells_some w.drew 2 i ⟨g,0,none⟩ i cap _ hX1 fun j u hj=>?_
  rw[Addr.add_lit,row_cell (W:=w.drew) hg];rw[List.getElem?_take] at hj
  split at hj
  ·rw[←Array.getElem?_toList,hcu,Nat.zero_add];exact hj
  ·cases hj
 have hrz:=Lib.run_append_grow_zeros (P:=Tryd.prog) w 93 3 93 98 i0 _ .i64 .i64 Tryd.underlying93 Tryd.underlying3 hi0 hz0 (some ⟨g,0,none⟩) i cap _ hold (cap+1 - i) (by omega) (by omega) (by omega) (by omega) (by rw[hz2];omega) (by rw[hz2];exact growslice_fits (by omega) (by omega));rw[←hk,show i+(cap+1 - i)=cap+1 by omega] at hrz;obtain⟨G,hG⟩:∃ G,G=grownCap w (cap+1) cap 98:=⟨_,rfl⟩;have hG1:cap+1≤G:=by rw[hG];exact grownCap_ge w _ _ _
 have hG2:G≤maxLen:=by rw[hG];exact grownCap_le_maxLen w _ _ _ (by unfold maxLen;omega)
 rw[←hG] at hrz;obtain⟨ROW,hROW⟩:∃ ROW:Array Value,ROW=((cellsU l).take (i * 2)).toArray++Builtin.zeroCells (Value.agg #[.int .i64 0,.int .u64 0]).cells (cap+1 - i)++Builtin.zeroCells (Value.agg #[.int .i64 0,.int .u64 0]).cells (G - (cap+1)):=⟨_,rfl⟩;rw[←hROW] at hrz;have hz:(Value.agg #[.int .i64 0,.int .u64 0]).cells.size=2:=by kernel_rfl
 have hRs:ROW.size=G * 2:=by
  rw[hROW,Array.size_append,Array.size_append,size_zeroCells,size_zeroCells,hz,List.size_toArray,hX1];omega
 have hRl:ROW.toList.length=G * 2:=by simpa using hRs
 have hRt:ROW.toList.take (i * 2)=(cellsU l).take (i * 2):=by
  rw[hROW,Array.toList_append,Array.toList_append,List.append_assoc,List.take_left' (by simpa using hX1)]
 obtain⟨N,hN⟩:∃ N,N=w.heap.size:=⟨_,rfl⟩;rw[←hN] at hrz hgl hvl hB;obtain⟨W0,hW0⟩:∃ W0,W0=w.drew.alloc (.cells ROW 98):=⟨_,rfl⟩;have hW0':w.drew.alloc (.cells ROW 98)=W0:=hW0.symm;rw[hW0'] at hrz;have hN0:W0.heap[N]?=some (.cells ROW 98 (0,0)):=by rw[hW0,hN];exact heap_alloc_new w.drew _
 have hO0:∀ k,k<N→W0.heap[k]?=w.heap[k]?:=fun k hk=>by rw[hW0];exact heap_alloc_old w.drew _ (by rw[hN] at hk;exact hk)
 have hmin2:Nat.min 1 (cap+1 - i)=1:=by simp only[Nat.min_def];split <;> omega
 have hnews:∀ (j:Nat) (u:Value),([.int .i64 x.1,.int .u64 x.2]:List Value)[j]?=some u→W0.cell? ((⟨vb,0,none⟩:Addr).add j)=some u:=by
  intro j u hu;have hc:∀ o,W0.cell? ⟨vb,o,none⟩=w.cell? ⟨vb,o,none⟩:=fun o=>by rw[row_cell (W:=W0) (by rw[hO0 vb hvl];exact hv),row_cell hv]
  match j,hu with
  | 0,hu=>injection hu with hu;subst hu;rw[Addr.add_lit,hc];exact hv0
  | 1,hu=>injection hu with hu;subst hu;rw[Addr.add_lit,hc];exact hv1
  | j+2,hu=>simp at hu
 have hr1:=run_copy2 (P:=Tryd.prog) W0 93 92 3 98 N (i * 2) (cap+1 - i) (G - i) ⟨vb,0,none⟩ 1 1 ROW 98 [.int .i64 x.1,.int .u64 x.2] Tryd.underlying93 (by rw[hi0];simp[hz1]) hN0 (by rw[hmin2];rfl) hnews (by simp[hRs];omega) (cellsU_1 [x]);obtain⟨W1,hW1⟩:∃ W1,W1=W0.setRow N (splice ROW.toList (i * 2) [.int .i64 x.1,.int .u64 x.2]).toArray:=⟨_,rfl⟩;rw[←hW1,hmin2] at hr1;have l1:=splice_len (L:=ROW.toList) (cs:=[.int .i64 x.1,.int .u64 x.2]) (o:=i * 2) (by simp[hRl];omega);have hN1:W1.heap[N]?=some (.cells (splice ROW.toList (i * 2) [.int .i64 x.1,.int .u64 x.2]).toArray 98 (0,0)):=by rw[hW1];exact setRow_heap W0 N _ _ 98 _ hN0
 have hO1:∀ k,k<N→W1.heap[k]?=w.heap[k]?:=fun k hk=>by rw[hW1,setRow_other _ N k _ (by omega)];exact hO0 k hk
 have hmin:Nat.min (cap - i) (cap+1 - (i+1))=cap - i:=by simp only[Nat.min_def];split <;> omega
 have hsrc:∀ (j:Nat) (u:Value),((cellsU l).drop (i * 2))[j]?=some u→W1.drew.cell? ((⟨g,i * 2,none⟩:Addr).add j)=some u:=by
  intro j u hu;rw[Addr.add_lit,row_cell (W:=W1.drew) (by show W1.heap[g]?=_;rw[hO1 g hgl];exact hg)];rw[List.getElem?_drop] at hu;rw[←Array.getElem?_toList,hcu];exact hu
 have hr2:=run_copy2 (P:=Tryd.prog) W1.drew 93 93 3 98 N ((i+1) * 2) (cap+1 - (i+1)) (G - (i+1)) ⟨g,i * 2,none⟩ (cap - i) (cap - i) _ 98 ((cellsU l).drop (i * 2)) Tryd.underlying93 (by rw[hi0];simp[hz1]) (by show W1.heap[N]?=_;exact hN1) (by rw[hX2,hmin]) hsrc (by rw[hX2,List.size_toArray,l1,hRl];omega) (fun u hu=>cellsU_1 l u (List.mem_of_mem_drop hu));obtain⟨W2,hW2⟩:∃ W2,W2=W1.drew.setRow N (splice (splice ROW.toList (i * 2) [.int .i64 x.1,.int .u64 x.2]).toArray.toList ((i+1) * 2) ((cellsU l).drop (i * 2))).toArray:=⟨_,rfl⟩;rw[←hW2,hmin] at hr2;rw[show cap+1 - (i+1)=cap - i by omega] at hr2
 have HE:Hid (InsPost B w (.slice (some ⟨g,0,none⟩) cap cap) l i x (.returned (.slice (some ⟨N,0,none⟩) (cap+1) G)) W2):=Lib.hid (by
  refine⟨_,rfl,?_,?_,fun g' hg'=> .inr (by have:N=g':=by simpa[Value.ownBlock] using hg'
                                           omega)⟩
  ·have hg2:W2.heap[N]?=some (.cells (splice (splice ROW.toList (i * 2) [.int .i64 x.1,.int .u64 x.2]).toArray.toList ((i+1) * 2) ((cellsU l).drop (i * 2))).toArray 98 (0,0)):=by rw[hW2];exact setRow_heap W1.drew N _ _ 98 _ (by show W1.heap[N]?=_;exact hN1)
   have l2:=splice_len (L:=splice ROW.toList (i * 2) [.int .i64 x.1,.int .u64 x.2]) (cs:=(cellsU l).drop (i * 2)) (o:=(i+1) * 2) (by rw[l1,hRl,hX2];omega);rw[←hn];refine⟨by rw[cellsU_length,insAt_length,hn],.inr ⟨N,G,_,rfl,hB,hg2,hG1,hG2,?_,?_⟩⟩
   ·simp only[List.size_toArray];rw[l2,l1,hRl]
   ·have hh:=splice_in2 (cur:=ROW.toList) (X1:=(cellsU l).take (i * 2)) (Y:=[.int .i64 x.1,.int .u64 x.2]) (X2:=(cellsU l).drop (i * 2)) (a:=i * 2) hRt hX1 (by rw[hX2,hRl];simp;omega)
    simp only[List.length_cons,List.length_nil,hX2] at hh;rw[show i * 2+(0+1+1)=(i+1) * 2 by omega,show (i+1) * 2+(cap - i) * 2=(cap+1) * 2 by omega] at hh;rw[show (splice (splice ROW.toList (i * 2) [Value.int .i64 x.1,Value.int .u64 x.2]).toArray.toList ((i+1) * 2) ((cellsU l).drop (i * 2))).toArray.toList=splice (splice ROW.toList (i * 2) [Value.int .i64 x.1,Value.int .u64 x.2]) ((i+1) * 2) ((cellsU l).drop (i * 2)) from rfl,hh];unfold insAt;rw[cellsU_app,cellsU_take l i (by omega),show cellsU (x::l.drop i)=[.int .i64 x.1,.int .u64 x.2]++cellsU (l.drop i) from rfl,cellsU_drop l i (by omega)]
  ·rw[hW2,hW1,hW0]
   refine⟨rfl,rfl,rfl,by simp[World.setRow,World.alloc],fun k hk _=>?_⟩;have hkN:k≠N:=by omega
   rw[setRow_other _ N k _ hkN];show (World.setRow (w.drew.alloc (.cells ROW 98)) N _).heap[k]?=_;rw[setRow_other _ N k _ hkN];exact heap_alloc_old w.drew _ hk)
 have hGi:¬ G=i:=by omega
 have hGi1:¬ G=i+1:=by omega
 have hcn:¬ cap=i:=by omega
 unfold maxLen at hcm hG2;clear hW2 hW1 hW0 hW0' hN1 hN0 hO1 hO0 l1 hv1 hnews hsrc hX2 hX1 hcl hll hmin hmin2 htk hcur hn hv hv0 hg hRt hRl hRs hROW hz hG hold hcu hi0 hz0 hz1 hz2 hB hgl hvl hN hk;go_enter Tryd.func66,Tryd.ntmps66;go_wp2_with (first | (at_builtin;refine wpList_append_eq _ rfl (.tmp 34) (.tmp 39) 93 3 rfl rfl rfl hrz ?_) | (at_builtin;refine wpList_copy_eq _ rfl (.tmp 43) (.tmp 44) 93 92 rfl rfl rfl hr1 ?_));refine wp_region_quiet_tail 8 (by kernel_rfl) (by kernel_rfl) ?_;simp only[List.take_succ_cons,List.take_zero,List.drop_succ_cons,List.drop_zero]
 repeat (go_big_quiet_step (fail))
 refine wpQuiet_nil ?_;go_wp2_with (at_builtin;refine wpList_copy_eq _ rfl (.tmp 50) (.tmp 53) 93 93 rfl rfl rfl hr2 ?_);go_ret;exact HE.out
theorem insert_any {B i:Nat} {v:Value} {l:List (Nat × Nat)} {x:Nat × Nat} {w:World} {vb:Nat} {cv:Array Value} (h:w.ownsRow B 98 2 v l.length (cellsU l)) (hB:B≤w.heap.size) (hi:i≤l.length) (hm:l.length≤1000000)
  (hv:w.heap[vb]?=some (.cells cv 98 (0,0))) (hne:∀ g,v.ownBlock=some g→vb≠g) (hv0:w.cell? ⟨vb,0,none⟩=some (.int .i64 x.1)) (hv1:w.cell? ⟨vb,1,none⟩=some (.int .u64 x.2)):
  Calls Tryd.prog 66 #[v,.int .i64 i,.slice (some ⟨vb,0,none⟩) 1 1] w (InsPost B w v l i x):=by
 by_cases he:i=l.length
 ·subst he;exact insert_end h hB hm hv0 hv1
 ·rcases h.2 with ⟨_,h0⟩ | ⟨g,cap,cur,rfl,hBg,hg,hnc,hcm,hcur,htk⟩
  ·omega
  ·by_cases hr:l.length+1≤cap
   ·exact insert_room hg hcur htk rfl (by omega) hr hcm hv (hne g rfl) hv0 hv1 hm hBg
   ·exact insert_grow hg hcur htk rfl (by omega) hnc (by omega) hcm hv hv0 hv1 hm hB
end Go.Proofs.YtiafefjaldcpbaaDoor
