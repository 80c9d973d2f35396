import Derived.Test.YtiafefjaldcpbaaDoorL3
import Derived.Test.YtiafefjaldcpbaaDoorL10
import Derived.Test.YtiafefjaldcpbaaDoorPrint2
import Derived.Test.YtiafefjaldcpbaaDoorK15
import Derived.Deep.AppendLies
namespace Go.Proofs.YtiafefjaldcpbaaDoor
open Go Go.RowKit
set_option maxRecDepth 100000
set_option maxHeartbeats 4000000
theorem cntL_ap:∀ (a b:List Re),cntL (a++b)=cntL a+cntL b
 | [],b=>by simp[cntL]
 | x::a,b=>by rw[List.cons_append,cntL,cntL,cntL_ap a b];omega
theorem take_snoc {l:List Re} {k:Nat} {r:Re} (h:l[k]?=some r):l.take (k+1)=l.take k++[r]:=by
 obtain⟨hk,e⟩:=List.getElem?_eq_some_iff.1 h;rw[List.take_succ_eq_append_getElem hk,e]
theorem kidsAt_at:∀ (l:List Re) (n j:Nat),j<l.length→(kidsAt n l)[j]?=some (n+sizeL (l.take j))
 | [],n,j,h=>by simp at h
 | r::l,n,0,_=>by rw[kidsAt];simp[sizeL]
 | r::l,n,j+1,h=>by
   rw[kidsAt,List.getElem?_cons_succ,kidsAt_at l _ j (by simpa using h),List.take_succ_cons,sizeL]
   congr 1;omega
theorem kidsAt_len:∀ (l:List Re) (n:Nat),(kidsAt n l).length=l.length
 | [],_=>rfl
 | r::l,n=>by rw[kidsAt,List.length_cons,kidsAt_len l,List.length_cons]
theorem tabE_nx (r:Re) (n p c v:Nat):∃ x,(tabE r n p 0 c)[0]?=some x∧tabE r n p v c=(tabE r n p 0 c).set 0 { x with nx:=v }:=by
 cases r with
 | mk k S ks lo hi g=>exact⟨_,by rw[tabE];rfl,by rw[tabE,tabE];rfl⟩
theorem tabL_snoc_f (l:List Re) (r:Re):∀ (n p c:Nat),tabL (l++[r]) false n p c=tabL l false n p c++tabE r (n+sizeL l) p 0 (c+cntL l):=by
 induction l with
 | nil=>intro n p c;rw[List.nil_append,tabL,tabL,tabL,sizeL,cntL];simp
 | cons a l ih=>
   intro n p c;rw[List.cons_append,tabL,tabL,ih,sizeL,cntL,List.append_assoc];simp only[Bool.false_eq_true,false_and,if_false];rw[Nat.add_assoc n,Nat.add_assoc c]
theorem tabL_one (q:Bool) (r:Re) (n p c:Nat):tabL [r] q n p c=tabE r n p 0 c:=by
 rw[tabL,tabL];simp
theorem tabL_snoc_t (l:List Re) (y r:Re):∀ (n p c:Nat),∃ x,(tabL (l++[y]) true n p c)[sizeL l]?=some x∧
  tabL (l++[y]++[r]) true n p c=(tabL (l++[y]) true n p c).set (sizeL l) { x with nx:=n+sizeL (l++[y]) }++tabE r (n+sizeL (l++[y])) p 0 (c+cntL (l++[y])):=by
 induction l with
 | nil=>
   intro n p c;obtain⟨x,h1,h2⟩:=tabE_nx y n p c (n+sizeE y);refine⟨x,?_,?_⟩
   ·rw[List.nil_append,tabL_one,sizeL];exact h1
   ·rw[List.nil_append,tabL_one,List.singleton_append,tabL,tabL_one,if_pos (by simp),h2]
    simp[sizeL,cntL]
 | cons a l ih=>
   intro n p c;obtain⟨x,h1,h2⟩:=ih (n+sizeE a) p (c+cntE a);have hne:l++[y]≠[]:=by simp
   have hne2:l++[y]++[r]≠[]:=by simp
   have hl:(tabE a n p (n+sizeE a) c).length=sizeE a:=tab_len _ _ _ _ _;refine⟨x,?_,?_⟩
   ·rw[List.cons_append,tabL,if_pos ⟨rfl,hne⟩,sizeL,List.getElem?_append_right (by rw[hl];omega),hl,Nat.add_sub_cancel_left]
    exact h1
   ·rw[List.cons_append,List.cons_append,tabL,if_pos ⟨rfl,hne2⟩,h2,tabL,if_pos ⟨rfl,hne⟩,sizeL,sizeL,cntL,List.set_append_right _ _ (by rw[hl];omega),hl,Nat.add_sub_cancel_left,List.append_assoc]
    rw[show n+sizeE a+sizeL (l++[y])=n+(sizeE a+sizeL (l++[y])) by omega,show c+cntE a+cntL (l++[y])=c+(cntE a+cntL (l++[y])) by omega]
def empN (b e:Bool) (l:List Re):Nat:=(l.filter (emptyE b e)).length
theorem empN_snoc {b e:Bool} {l:List Re} {k:Nat} {r:Re} (h:l[k]?=some r):empN b e (l.take (k+1))=empN b e (l.take k)+if emptyE b e r=true then 1 else 0:=by
 rw[take_snoc h];unfold empN;rw[List.filter_append,List.length_append]
 congr 1
 by_cases he:emptyE b e r=true
 ·rw[if_pos he];simp[he]
 ·rw[if_neg he];simp[he]
theorem empN_le (b e:Bool) (l:List Re):empN b e l≤l.length:=List.length_filter_le _ _
theorem allE_n (b e:Bool):∀ (l:List Re),allE b e l=decide (empN b e l=l.length)
 | []=>by rw[allE];rfl
 | r::l=>by
   rw[allE,allE_n b e l];have:=empN_le b e l;unfold empN at this ⊢;by_cases h:emptyE b e r=true
   ·simp[h]
   ·have h':emptyE b e r=false:=by simpa using h
    simp only[h',List.filter_cons,Bool.false_and]
    symm
    simp;omega
theorem anyE_n (b e:Bool):∀ (l:List Re),anyE b e l=decide (0<empN b e l)
 | []=>by rw[anyE];rfl
 | r::l=>by
   rw[anyE,anyE_n b e l];unfold empN;by_cases h:emptyE b e r=true
   ·simp[h]
   ·have h':emptyE b e r=false:=by simpa using h
    simp[h']
def nd15 (x:Nd) (K:Option Addr) (c:Nat):List Value:=[.int .i64 x.r.kind,.int .u64 x.r.set.1.toNat,.int .u64 x.r.set.2.1.toNat,.int .u64 x.r.set.2.2.1.toNat,.int .u64 x.r.set.2.2.2.toNat,.int .i64 x.r.lo,.int .i64 x.r.hi,.slice K x.kids.length c,.int .i64 x.par,.int .i64 x.nx,.int .i64 x.cn,
 .bool (emptyE false false x.r),.bool (emptyE true false x.r),.bool (emptyE false true x.r),.bool (emptyE true true x.r)]
structure TCs (P:Nat→Prop) (w:World) (cs:List Value) (T:List Nd):Prop where
 len:cs.length=T.length * 15
 at_:∀ (n:Nat) (x:Nd),T[n]?=some x→∃ K c,(∀ j,j<15→cs[n * 15+j]?=(nd15 x K c)[j]?)∧IntsAt P w K x.kids
theorem TCs.nil (P:Nat→Prop) (w:World):TCs P w [] []:=⟨rfl,fun n x h=>by simp at h⟩
theorem TCs.one {P:Nat→Prop} {w:World} {x:Nd} {K:Option Addr} {c:Nat} (h:IntsAt P w K x.kids):TCs P w (nd15 x K c) [x]:=by
 refine⟨rfl,fun n y hy=>?_⟩
 cases n with
 | zero=>injection hy with hy;subst hy;exact⟨K,c,fun j _=>by rw[Nat.zero_mul,Nat.zero_add],h⟩
 | succ n=>simp at hy
theorem TCs.app {P:Nat→Prop} {w:World} {cs cs':List Value} {T T':List Nd} (h:TCs P w cs T) (h':TCs P w cs' T'):TCs P w (cs++cs') (T++T'):=by
 refine⟨by rw[List.length_append,List.length_append,h.len,h'.len];omega,fun n x hx=>?_⟩;by_cases hn:n<T.length
 ·rw[List.getElem?_append_left hn] at hx
  obtain⟨K,c,h1,h2⟩:=h.at_ n x hx
  exact⟨K,c,fun j hj=>by rw[List.getElem?_append_left (by rw[h.len];omega)];exact h1 j hj,h2⟩
 ·rw[List.getElem?_append_right (by omega)] at hx
  obtain⟨K,c,h1,h2⟩:=h'.at_ _ x hx
  exact⟨K,c,fun j hj=>by rw[List.getElem?_append_right (by rw[h.len];omega),h.len,show n * 15+j - T.length * 15=(n - T.length) * 15+j by omega];exact h1 j hj,h2⟩
theorem TCs.keep {P P':Nat→Prop} {w w':World} {cs:List Value} {T:List Nd} (h:TCs P w cs T) (hs:∀ b,P b→P' b∧w'.heap[b]?=w.heap[b]?):TCs P' w' cs T:=by
 refine⟨h.len,fun n x hx=>?_⟩;obtain⟨K,c,h1,h2⟩:=h.at_ n x hx
 refine⟨K,c,h1,fun i m hi=>?_⟩;obtain⟨ad,g1,g2,g3⟩:=h2 i m hi;obtain⟨q1,q2⟩:=hs _ g2;exact⟨ad,g1,q1,by rw[←g3];exact World.cell?_of_block (w:=w) (by rw[block_of_add];exact q2)⟩
theorem TCs.setNx {P:Nat→Prop} {w:World} {cs:List Value} {T:List Nd} (h:TCs P w cs T) {k:Nat} {y:Nd} (hy:T[k]?=some y) (v:Nat):TCs P w (cs.set (k * 15+9) (.int .i64 v)) (T.set k { y with nx:=v }):=by
 have hk:=(List.getElem?_eq_some_iff.1 hy).1;refine⟨by rw[List.length_set,List.length_set];exact h.len,fun n x hx=>?_⟩;by_cases he:k=n
 ·subst he
  rw[List.getElem?_set_self hk] at hx;injection hx with hx;subst hx
  obtain⟨K,c,h1,h2⟩:=h.at_ k y hy
  refine⟨K,c,fun j hj=>?_,h2⟩;by_cases h9:j=9
  ·subst h9
   rw[List.getElem?_set_self (by rw[h.len];omega)];rfl
  ·rw[List.getElem?_set_ne (by omega),h1 j hj]
   have:j=0∨j=1∨j=2∨j=3∨j=4∨j=5∨j=6∨j=7∨j=8∨j=10∨j=11∨j=12∨j=13∨j=14:=by omega
   rcases this with rfl | rfl | rfl | rfl | rfl | rfl | rfl | rfl | rfl | rfl | rfl | rfl | rfl | rfl <;> rfl
 ·rw[List.getElem?_set_ne he] at hx
  obtain⟨K,c,h1,h2⟩:=h.at_ n x hx
  exact⟨K,c,fun j hj=>by rw[List.getElem?_set_ne (by omega)];exact h1 j hj,h2⟩
theorem TCs.parts {P P':Nat→Prop} {w:World} {cs:List Value} {T:List Nd} (h:TCs P w cs T) {g:Nat} (hc:∀ (j:Nat) (v:Value),cs[j]?=some v→w.cell? ⟨g,j,none⟩=some v) (hp:∀ b,P b→P' b) (hg:P' g):PartsAt P' w ⟨g,0,none⟩ T:=by
 refine⟨hg,fun n x hx=>?_⟩;obtain⟨K,c,h1,h2⟩:=h.at_ n x hx
 have ha:(⟨g,0,none⟩:Addr).add (n * 15)=⟨g,n * 15,none⟩:=by rw[Addr.add_lit,Nat.zero_add]
 rw[ha]
 have hcell:∀ (j:Nat) (v:Value),(nd15 x K c)[j]?=some v→w.cell? ⟨g,n * 15+j,none⟩=some v:=fun j v hv=>by
  have hj:j<15:=(List.getElem?_eq_some_iff.1 hv).1;exact hc _ _ ((h1 j hj).trans hv)
 refine⟨K,c,⟨hcell 0 _ rfl,hcell 1 _ rfl,hcell 2 _ rfl,hcell 3 _ rfl,hcell 4 _ rfl,hcell 5 _ rfl,hcell 6 _ rfl,hcell 7 _ rfl,hcell 8 _ rfl,hcell 9 _ rfl,hcell 10 _ rfl,hcell 11 _ rfl,hcell 12 _ rfl,hcell 13 _ rfl,hcell 14 _ rfl⟩,fun i m hi=>?_⟩;obtain⟨ad,g1,g2,g3⟩:=h2 i m hi;exact⟨ad,g1,hp _ g2,g3⟩
theorem counts_any (r:Re) (A:Option Addr) (c:Nat) (w:World):Calls Tryd.prog 33 #[valR r A c] w fun e w'=>e= .returned (.bool (cntQ r))∧Below w.heap.size w w':=by
 obtain⟨k,S,ks,lo,hi,n⟩:=r;simp only[valR];obtain⟨v,hv⟩:∃ v,v=cntQ (.mk k S ks lo hi n):=⟨_,rfl⟩;rw[←hv];unfold cntQ at hv;simp only[Re.kind,Re.hi,Re.lo] at hv;obtain⟨s0,hs0⟩:∃ s0:Int,s0=S.1.toNat:=⟨_,rfl⟩;obtain⟨s1,hs1⟩:∃ s1:Int,s1=S.2.1.toNat:=⟨_,rfl⟩;obtain⟨s2,hs2⟩:∃ s2:Int,s2=S.2.2.1.toNat:=⟨_,rfl⟩;obtain⟨s3,hs3⟩:∃ s3:Int,s3=S.2.2.2.toNat:=⟨_,rfl⟩;rw[←hs0,←hs1,←hs2,←hs3];clear hs0 hs1 hs2 hs3;have hbo:∀ o,Below w.heap.size w (w.alloc o):=one_box w;have HB:=Lib.hid hbo;clear hbo;by_cases h6:k=6
 ·subst h6
  by_cases h1:1<hi
  ·have b1:decide (1<hi)=true:=by simp[h1]
   have b0:v=true:=by rw[hv];simp[h1]
   subst b0;clear hv;go_enter Tryd.func33,Tryd.ntmps33;go_wp2;go_ret;exact⟨rfl,HB.out _⟩
  ·have b1:decide (1<hi)=false:=by simp;omega
   by_cases h2:hi<0
   ·have b2:decide (hi<0)=true:=by simp[h2]
    by_cases h3:1<lo
    ·have b3:decide (1<lo)=true:=by simp[h3]
     have b0:v=true:=by rw[hv];simp[h2,h3]
     subst b0;clear hv;go_enter Tryd.func33,Tryd.ntmps33;go_wp2;go_ret;exact⟨rfl,HB.out _⟩
    ·have b3:decide (1<lo)=false:=by simp;omega
     have b0:v=false:=by rw[hv];simp[h1,h3]
     subst b0;clear hv;go_enter Tryd.func33,Tryd.ntmps33;go_wp2;go_ret;exact⟨rfl,HB.out _⟩
   ·have b2:decide (hi<0)=false:=by simp;omega
    have b0:v=false:=by rw[hv];simp[h1,h2]
    subst b0;clear hv;go_enter Tryd.func33,Tryd.ntmps33;go_wp2;go_ret;exact⟨rfl,HB.out _⟩
 ·have b6:(k==6)=false:=by simp[h6]
  have b0:v=false:=by rw[hv];simp[h6]
  subst b0;clear hv;go_enter Tryd.func33,Tryd.ntmps33;go_wp2;go_ret;exact⟨rfl,HB.out _⟩
theorem mode_and {m:Nat} {b e:Bool} (hm:m=modeN b e):∃ y1 y2:Int,bits .and .i64 (m:Int) 1=y1∧bits .and .i64 (m:Int) 2=y2∧(y1 != 0)=b∧(y2 != 0)=e:=by
 subst hm
 cases b <;> cases e <;> exact⟨_,_,rfl,rfl,by decide,by decide⟩
structure RootAt (w:World) (g:Nat) (N n:Nat) (r:Re) (K:Option Addr) (kc:Nat) (b e:Bool):Prop where
 lt:n<N
 k0:w.cell? ⟨g,n * 15,none⟩=some (.int .i64 r.kind)
 k5:w.cell? ⟨g,n * 15+5,none⟩=some (.int .i64 r.lo)
 k7:w.cell? ⟨g,n * 15+7,none⟩=some (.slice K r.kids.length kc)
 kid:∀ (j:Nat) (x:Re),r.kids[j]?=some x→∃ KB q:Nat,K=some ⟨KB,0,none⟩∧w.cell? ⟨KB,j,none⟩=some (.int .i64 q)∧q<N∧w.cell? ⟨g,q * 15+11+modeN b e,none⟩=some (.bool (emptyE b e x))
theorem empty_kind (b e:Bool) (r:Re):emptyE b e r=if r.kind=0 then true else if r.kind=2 then b else if r.kind=3 then e else if r.kind=4 then allE b e r.kids else if r.kind=6 then decide (r.lo=0) || anyE b e r.kids else anyE b e r.kids:=by
 cases r;rw[emptyE];rfl
theorem isempty_any {w:World} {mb g N n cap kc:Nat} {r:Re} {K:Option Addr} {b e:Bool} (c0:w.cell? ⟨mb,0,none⟩=some (.slice (some ⟨g,0,none⟩) N cap)) (h:RootAt w g N n r K kc b e) (hl:r.kids.length≤1000000):
  Calls Tryd.prog 34 #[.pointer (some ⟨mb,0,none⟩),.int .i64 n,.int .i64 (modeN b e:Nat)] w fun e' w'=>e'= .returned (.bool (emptyE b e r))∧w'=w:=by
 obtain⟨hn,k0,k5,k7,hk⟩:=h;obtain⟨v,hv⟩:∃ v,v=emptyE b e r:=⟨_,rfl⟩;rw[←hv];rw[empty_kind,allE_n,anyE_n] at hv;obtain⟨m,hm⟩:∃ m,m=modeN b e:=⟨_,rfl⟩;obtain⟨y1,y2,z1,z2,z3,z4⟩:=mode_and hm;have hm4:m<4:=by rw[hm];unfold modeN;cases b <;> cases e <;> decide
 rw[←hm] at hk ⊢;obtain⟨k,hkk⟩:∃ k,k=r.kind:=⟨_,rfl⟩;obtain⟨lo,hlo⟩:∃ k,k=r.lo:=⟨_,rfl⟩;obtain⟨ln,hln⟩:∃ k,k=r.kids.length:=⟨_,rfl⟩;rw[←hkk] at k0 hv;rw[←hlo] at k5 hv;rw[←hln] at k7 hv hl;have HK:=Lib.hid hk;have HL:=Lib.hid hln;have HV:=Lib.hid hv;have HE:Hid (∀ j,empN b e (r.kids.take j)≤j):=Lib.hid fun j=>Nat.le_trans (empN_le _ _ _) (by rw[List.length_take];omega)
 clear hkk hlo hln hk hv hm;go_enter Tryd.func34,Tryd.ntmps34;go_wp2
 go_loopw [8,22] (fun kd i wr=>∃ j:Nat,j≤ln∧i= .int .i64 (j:Nat)∧kd= .int .i64 (empN b e (r.kids.take j):Nat)∧wr=w) (fun _ i _=>ln - (intOf i).toNat)
 case atStart=>exact⟨0,Nat.zero_le _,rfl,rfl,rfl⟩
 case round=>
  obtain⟨j,hj,rfl,rfl,rfl⟩:=hrel;have hej:=HE.out j;by_cases a:j<ln
  ·obtain⟨x,hx⟩:=get_of_lt HL.out a
   obtain⟨KB,q,rfl,d0,hq,d1⟩:=HK.out j x hx;have hs:=empN_snoc (b:=b) (e:=e) hx;obtain⟨ev,hev⟩:∃ ev,ev=emptyE b e x:=⟨_,rfl⟩;rw[←hev] at d1 hs;have HS:=Lib.hid hs;obtain⟨E,hE⟩:∃ E,E=empN b e (r.kids.take j):=⟨_,rfl⟩;rw[←hE] at HS hej ⊢;clear hx hs hev hE
   cases ev with
   | true=>
     go_wp2
     go_roundw
     case rel=>exact⟨j+1,by omega,by go_num,by rw[HS.out,if_pos rfl];go_num,trivial⟩
     case measure=>simp[intOf];omega
   | false=>
     go_wp2
     go_roundw
     case rel=>exact⟨j+1,by omega,by go_num,by rw[HS.out,if_neg (by decide)];go_num,trivial⟩
     case measure=>simp[intOf];omega
  ·obtain rfl:j=ln:=by omega
   have hX:r.kids.take j=r.kids:=List.take_of_length_le (by have:=HL.out;omega);rw[hX] at hej ⊢;obtain⟨E,hE⟩:∃ E,E=empN b e r.kids:=⟨_,rfl⟩;rw[←hE] at hej HV ⊢;clear hE hX;by_cases h0:k=0
   ·subst h0
    have hv:=HV.out;rw[if_pos rfl] at hv;subst hv;go_wp2;go_ret;exact⟨rfl,rfl⟩
   have q0:(k==0)=false:=by simp[h0]
   by_cases h2:k=2
   ·subst h2
    have hv:v=b:=HV.out;subst hv;go_wp2;go_ret;exact⟨rfl,rfl⟩
   have q2:(k==2)=false:=by simp[h2]
   by_cases h3:k=3
   ·subst h3
    have hv:v=e:=HV.out;subst hv;go_wp2;go_ret;exact⟨rfl,rfl⟩
   have q3:(k==3)=false:=by simp[h3]
   by_cases h4:k=4
   ·subst h4
    have hv:v=decide (E=j):=HV.out;have hv2:((E:Int)==(j:Int))=v:=by rw[hv];by_cases h:E=j <;> simp[h] <;> omega
    have hv3:(E==j)=v:=by rw[hv];by_cases h:E=j <;> simp[h]
    have HV2:=Lib.hid hv2;clear hv;go_wp2;go_ret;exact⟨by first | rfl | (rw[HV2.out]),rfl⟩
   have q4:(k==4)=false:=by simp[h4]
   by_cases h6:k=6
   ·subst h6
    have hv:v=(decide (lo=0) || decide (0<E)):=HV.out;by_cases hl0:lo=0
    ·have ql:(lo==0)=true:=by simp[hl0]
     have hv2:v=true:=by rw[hv];simp[hl0]
     clear hv;subst hl0;subst hv2;clear ql;go_wp2;go_ret;exact⟨rfl,rfl⟩
    ·have ql:(lo==0)=false:=by simp[hl0]
     have hv2:v=decide (0<E):=by rw[hv];simp[hl0]
     have HW:=Lib.hid hv2;clear hv hv2 hl0 h0 h2 h3 h4 q0 q2 q3 q4;go_wp2;go_ret;exact⟨ret_bool (by first | rfl | rw[HW.out]),rfl⟩
   have q6:(k==6)=false:=by simp[h6]
   have hv:v=decide (0<E):=by have:=HV.out;rw[if_neg h0,if_neg h2,if_neg h3,if_neg h4,if_neg h6] at this;exact this
   have HW:=Lib.hid hv;clear hv;go_wp2;go_ret;exact⟨ret_bool (by first | rfl | rw[HW.out]),rfl⟩
section
structure AddM (w:World) (mb:Nat) (v:Value) (C:Nat):Prop where
 c0:w.cell? ⟨mb,0,none⟩=some v
 c1:w.cell? ⟨mb,1,none⟩=some (.int .i64 (C:Nat))
 f:∀ j,w.frozen? ⟨mb,j,none⟩=false
structure AddFr (B mb:Nat) (v:Value) (w:World) (v':Value) (w':World):Prop where
 below:Below B w w'
 own:∀ k,k<w.heap.size→k≠mb→v.ownBlock≠some k→w'.heap[k]?=w.heap[k]?
 vk:∀ g,v'.ownBlock=some g→v.ownBlock=some g∨w.heap.size≤g
 mc:∀ j,2≤j→w'.cell? ⟨mb,j,none⟩=w.cell? ⟨mb,j,none⟩
theorem AddFr.trans {B mb:Nat} {v v' v'':Value} {w w' w'':World} (h:AddFr B mb v w v' w') (h':AddFr B mb v' w' v'' w''):AddFr B mb v w v'' w'':=by
 have hz:=h.below.size;refine⟨h.below.trans h'.below,fun k hk h1 h2=>?_,fun g hg=>?_,fun j hj=>(h'.mc j hj).trans (h.mc j hj)⟩
 ·rw[h'.own k (by omega) h1 (fun h4=>(h.vk k h4).elim h2 (by omega)),h.own k hk h1 h2]
 ·rcases h'.vk g hg with h1 | h1
  ·exact h.vk g h1
  ·exact .inr (by omega)
def AddPost (B mb:Nat) (r:Re) (p:Nat) (w:World) (v:Value) (N C:Nat) (cs:List Value) (e:Ending) (w':World):Prop:=
 ∃ (v':Value) (cs1:List Value),e= .returned (.int .i64 (N:Nat))∧w'.ownsRow B 68 15 v' (N+sizeE r) (cs++cs1)∧TCs (fun b=>w.heap.size≤b∧b<w'.heap.size∧v'.ownBlock≠some b) w' cs1 (tabE r N p 0 C)∧AddM w' mb v' (C+cntE r)∧AddFr B mb v w v' w'
structure AddS (B mb N:Nat) (cs:List Value) (v0:Value) (w0:World) (X:Nat→Prop) (v:Value) (rt cs1:List Value) (T1:List Nd) (C:Nat) (w:World):Prop where
 row:w.ownsRow B 68 15 v (N+1+T1.length) (cs++(rt++cs1))
 cl:cs.length=N * 15
 rl:rt.length=15
 tcs:TCs (fun b=>w0.heap.size≤b∧b<w.heap.size∧v.ownBlock≠some b∧¬ X b) w cs1 T1
 m:AddM w mb v C
 mbb:B≤mb∧mb<w0.heap.size∧v.ownBlock≠some mb
 fr:AddFr B mb v0 w0 v w
 x:∀ b,X b→w0.heap.size≤b∧b<w.heap.size∧v.ownBlock≠some b
section
variable {B mb N:Nat} {cs:List Value} {v0:Value} {w0:World} {X:Nat→Prop} {v:Value} {rt cs1:List Value} {T1:List Nd} {C:Nat} {w W:World}
theorem AddM.keep {w w':World} {mb:Nat} {v:Value} {C:Nat} (h:AddM w mb v C) (hs:w'.heap[mb]?=w.heap[mb]?):AddM w' mb v C:=
 ⟨(cell_same (p:=⟨mb,0,none⟩) hs).trans h.c0,(cell_same (p:=⟨mb,1,none⟩) hs).trans h.c1,fun j=>(frozen_same hs j).trans (h.f j)⟩
theorem AddS.below (h:AddS B mb N cs v0 w0 X v rt cs1 T1 C w) (hB:B≤w0.heap.size) (hb:Below w.heap.size w W) {X':Nat→Prop} (hX:∀ b,X' b→X b∨(w.heap.size≤b∧b<W.heap.size)):AddS B mb N cs v0 w0 X' v rt cs1 T1 C W:=by
 have hz:=hb.size;have hz0:=h.fr.below.size
 have hv:∀ g,v.ownBlock=some g→g<w.heap.size:=fun g hg=>(by
  rcases h.row.2 with ⟨hv,_⟩ | ⟨g',cap,cur,hv,_,hg',_⟩
  ·rw[hv] at hg;simp[Value.ownBlock] at hg
  ·have:g'=g:=by rw[hv] at hg;simpa[Value.ownBlock] using hg
   subst this;exact(Array.getElem?_eq_some_iff.1 hg').1)
 refine⟨below_kept h.row hb,h.cl,h.rl,h.tcs.keep (fun b ⟨k1,k2,k3,k4⟩=>⟨⟨k1,by omega,k3,fun hx=>(hX b hx).elim k4 (by omega)⟩,hb.block b k2⟩),h.m.keep (hb.block mb (by have:=h.mbb.2.1;omega)),h.mbb,h.fr.trans ⟨hb.mono (by omega),fun k hk _ _=>hb.block k hk,fun _ h=> .inl h,fun j _=>hb.cell (p:=⟨mb,j,none⟩) (by have:=h.mbb.2.1;show mb<_;omega)⟩,fun b hx=>?_⟩
 rcases hX b hx with h1 | ⟨h1,h2⟩
 ·obtain⟨k1,k2,k3⟩:=h.x b h1
  exact⟨k1,by omega,k3⟩
 ·exact⟨by omega,h2,fun e=>by have:=hv b e;omega⟩
theorem AddS.count (h:AddS B mb N cs v0 w0 X v rt cs1 T1 C w) (C':Nat):AddS B mb N cs v0 w0 X v rt cs1 T1 C' (w.setCell ⟨mb,1,none⟩ (.int .i64 (C':Nat))):=by
 have hs:∀ k,k≠mb→(w.setCell ⟨mb,1,none⟩ (.int .i64 (C':Nat))).heap[k]?=w.heap[k]?:=fun k hk=>Below.heap_setCell _ _ _ _ hk
 have hz:(w.setCell ⟨mb,1,none⟩ (.int .i64 (C':Nat))).heap.size=w.heap.size:=by simp
 have o:∀ j,j≠1→(w.setCell ⟨mb,1,none⟩ (.int .i64 (C':Nat))).cell? ⟨mb,j,none⟩=w.cell? ⟨mb,j,none⟩:=fun j hj=>World.cell?_setCell_other _ _ _ _ (by intro e;injection e with _ e;exact hj e.symm)
 obtain⟨m1,m2,m3⟩:=h.mbb;refine⟨ownsRow_same h.row (fun g hg=>hs g (fun e=>m3 (by rw[←e];exact hg))),h.cl,h.rl,h.tcs.keep (fun b ⟨k1,k2,k3,k4⟩=>⟨⟨k1,by omega,k3,k4⟩,hs b (by omega)⟩),⟨(o 0 (by decide)).trans h.m.c0,World.cell?_setCell_same _ _ _ h.m.c1,fun j=>by rw[World.frozen?_setCell];exact h.m.f j⟩,h.mbb,h.fr.trans ⟨(Below.refl _ _).setCell m1 _,fun k _ hk _=>hs k hk,fun _ h=> .inl h,fun j hj=>o j (by omega)⟩,fun b hx=>by rw[hz];exact h.x b hx⟩
theorem AddS.block (h:AddS B mb N cs v0 w0 X v rt cs1 T1 C w):∃ g cap,v= .slice (some ⟨g,0,none⟩) (N+1+T1.length) cap∧B≤g∧g<w.heap.size∧(∀ j,w.frozen? ⟨g,j,none⟩=false)∧∀ (j:Nat) (u:Value),(cs++(rt++cs1))[j]?=some u→w.cell? ⟨g,j,none⟩=some u:=by
 rcases h.row.2 with ⟨_,e⟩ | ⟨g,cap,cur,hv,hB,hg,_⟩
 ·omega
 ·refine⟨g,cap,hv,hB,(Array.getElem?_eq_some_iff.1 hg).1,row_free hg,fun j u hu=>?_⟩
  have:=h.row.cells (g:=g) (by rw[hv];rfl) _ _ hu;rw[Addr.add_lit,Nat.zero_add] at this;exact this
theorem AddS.blk {g cap m:Nat} (h:AddS B mb N cs v0 w0 X (.slice (some ⟨g,0,none⟩) m cap) rt cs1 T1 C w):B≤g∧g<w.heap.size∧(∀ j,w.frozen? ⟨g,j,none⟩=false)∧∀ (j:Nat) (u:Value),(cs++(rt++cs1))[j]?=some u→w.cell? ⟨g,j,none⟩=some u:=by
 obtain⟨g',cap',hv,h1⟩:=h.block;injection hv with hv _ _
 injection hv with hv
 injection hv with hv _ _
 subst hv;exact h1
theorem AddS.put {g cap i:Nat} {u:Value} {rt' cs1':List Value} {T1':List Nd} (h:AddS B mb N cs v0 w0 X v rt cs1 T1 C w) (hv:v= .slice (some ⟨g,0,none⟩) (N+1+T1.length) cap) (hB:B≤g) (hset:(cs++(rt++cs1)).set i u=cs++(rt'++cs1')) (hl:rt'.length=15) (hT:T1'.length=T1.length)
  (ht:∀ (P:Nat→Prop) (w:World),TCs P w cs1 T1→TCs P w cs1' T1'):AddS B mb N cs v0 w0 X v rt' cs1' T1' C (w.setCell ⟨g,i,none⟩ u):=by
 have hs:∀ k,k≠g→(w.setCell ⟨g,i,none⟩ u).heap[k]?=w.heap[k]?:=fun k hk=>Below.heap_setCell _ _ _ _ hk
 have hz:(w.setCell ⟨g,i,none⟩ u).heap.size=w.heap.size:=by simp
 have hvo:v.ownBlock=some g:=by rw[hv];rfl
 obtain⟨m1,m2,m3⟩:=h.mbb;have hgm:mb≠g:=fun e=>m3 (by rw[hvo,e])
 have hrow:=h.row;rw[hv] at hrow;have hst:=(hrow.stored i u).1;rw[hset,←hv,←hT] at hst;refine⟨hst,h.cl,hl,ht _ _ (h.tcs.keep (fun b ⟨k1,k2,k3,k4⟩=>⟨⟨k1,by omega,k3,k4⟩,hs b (fun e=>k3 (by rw[hvo,e]))⟩)),h.m.keep (hs mb hgm),h.mbb,?_,fun b hx=>by rw[hz];exact h.x b hx⟩;refine⟨h.fr.below.setCell hB _,fun k hk hk1 hk2=>?_,h.fr.vk,fun j hj=>(cell_same (p:=⟨mb,j,none⟩) (hs mb hgm)).trans (h.fr.mc j hj)⟩;rw[hs k (fun e=>(h.fr.vk g hvo).elim (fun e2=>hk2 (by rw[e];exact e2)) (by omega))];exact h.fr.own k hk hk1 hk2
theorem set_rt {i q:Nat} {u:Value} (hc:cs.length=N * 15) (hr:rt.length=15) (hq:q<15) (hi:i=N * 15+q):(cs++(rt++cs1)).set i u=cs++(rt.set q u++cs1):=by
 rw[List.set_append_right _ _ (by omega),List.set_append_left _ _ (by omega)]
 congr 3;omega
theorem set_cs1 {i k:Nat} {u:Value} (hc:cs.length=N * 15) (hr:rt.length=15) (hi:i=(N+1) * 15+k):(cs++(rt++cs1)).set i u=cs++(rt++cs1.set k u):=by
 rw[List.set_append_right _ _ (by omega),List.set_append_right _ _ (by omega)]
 congr 3;omega
theorem AddS.xset {b i:Nat} {u:Value} (h:AddS B mb N cs v0 w0 X v rt cs1 T1 C w) (hx:X b):AddS B mb N cs v0 w0 X v rt cs1 T1 C (w.setCell ⟨b,i,none⟩ u):=by
 have hs:∀ k,k≠b→(w.setCell ⟨b,i,none⟩ u).heap[k]?=w.heap[k]?:=fun k hk=>Below.heap_setCell _ _ _ _ hk
 have hz:(w.setCell ⟨b,i,none⟩ u).heap.size=w.heap.size:=by simp
 obtain⟨x1,x2,x3⟩:=h.x b hx;obtain⟨m1,m2,m3⟩:=h.mbb;refine⟨ownsRow_same h.row (fun g hg=>hs g (fun e=>x3 (by rw[←e];exact hg))),h.cl,h.rl,h.tcs.keep (fun k ⟨k1,k2,k3,k4⟩=>⟨⟨k1,by omega,k3,k4⟩,hs k (fun e=>k4 (by rw[e];exact hx))⟩),h.m.keep (hs mb (by omega)),h.mbb,?_,fun k hk=>by rw[hz];exact h.x k hk⟩;refine⟨h.fr.below.setCell (by show B≤b;omega) _,fun k hk hk1 hk2=>?_,h.fr.vk,fun j hj=>(cell_same (p:=⟨mb,j,none⟩) (hs mb (by omega))).trans (h.fr.mc j hj)⟩;rw[hs k (by omega)];exact h.fr.own k hk hk1 hk2
theorem AddS.child {r:Re} {p:Nat} {e:Ending} (h:AddS B mb N cs v0 w0 X v rt cs1 T1 C w) (hp:AddPost B mb r p w v (N+1+T1.length) C (cs++(rt++cs1)) e W):
  ∃ v' cs2,e= .returned (.int .i64 (N+1+T1.length:Nat))∧AddS B mb N cs v0 w0 X v' rt (cs1++cs2) (T1++tabE r (N+1+T1.length) p 0 C) (C+cntE r) W∧∀ b,X b→W.heap[b]?=w.heap[b]?:=by
 obtain⟨v',cs2,rfl,h2,h3,h4,h5⟩:=hp;have hz:=h5.below.size;have hz0:=h.fr.below.size;obtain⟨m1,m2,m3⟩:=h.mbb
 have hX:∀ b,X b→W.heap[b]?=w.heap[b]?:=fun b hx=>by
  obtain⟨x1,x2,x3⟩:=h.x b hx;exact h5.own b x2 (by omega) x3
 have hv':∀ b,b<w.heap.size→v.ownBlock≠some b→v'.ownBlock≠some b:=fun b hb hne e=>(h5.vk b e).elim hne (by omega)
 refine⟨v',cs2,rfl,⟨?_,h.cl,h.rl,?_,h4,⟨m1,m2,hv' mb (by omega) m3⟩,h.fr.trans h5,fun b hx=>?_⟩,hX⟩
 ·rw[List.length_append,tab_len,show cs++(rt++(cs1++cs2))=cs++(rt++cs1)++cs2 by simp,show N+1+(T1.length+sizeE r)=N+1+T1.length+sizeE r by omega]
  exact h2
 ·refine TCs.app (h.tcs.keep (fun b ⟨k1,k2,k3,k4⟩=>⟨⟨k1,by omega,hv' b k2 k3,k4⟩,h5.own b k2 (by omega) k3⟩)) (h3.keep (fun b ⟨k1,k2,k3⟩=>⟨⟨by omega,k2,k3,fun hx=>by have:=(h.x b hx).2.1;omega⟩,rfl⟩))
 ·obtain⟨x1,x2,x3⟩:=h.x b hx
  exact⟨x1,by omega,hv' b x2 x3⟩
end
theorem tabL_at:∀ (l:List Re) (q:Bool) (n p c j:Nat) (x:Re),l[j]?=some x→∃ y,(tabL l q n p c)[sizeL (l.take j)]?=some y∧y.r=x
 | [],_,_,_,_,j,x,h=>by simp at h
 | r::l,q,n,p,c,0,x,h=>by
   injection h with h;subst h
   rw[List.take_zero,sizeL,tabL];refine⟨ndOf r n p (if q=true∧l≠[] then n+sizeE r else 0) c,?_,rfl⟩
   cases r with
   | mk k S ks lo hi g=>rw[tabE];rfl
 | r::l,q,n,p,c,j+1,x,h=>by
   obtain⟨y,h1,h2⟩:=tabL_at l q (n+sizeE r) p (c+cntE r) j x (by simpa using h);refine⟨y,?_,h2⟩;rw[List.take_succ_cons,sizeL,tabL,List.getElem?_append_right (by rw[tab_len];omega),tab_len,Nat.add_sub_cancel_left];exact h1
end
def rt15 (r:Re) (p:Nat) (kv:Value) (cn:Nat) (e0 e1 e2 e3:Bool):List Value:=[.int .i64 r.kind,.int .u64 r.set.1.toNat,.int .u64 r.set.2.1.toNat,.int .u64 r.set.2.2.1.toNat,.int .u64 r.set.2.2.2.toNat,.int .i64 r.lo,.int .i64 r.hi,kv,.int .i64 p,.int .i64 0,.int .i64 cn,.bool e0,.bool e1,.bool e2,.bool e3]
theorem info68:(Tryd.prog.info? 68).map (fun i=>(i.zero,i.size,i.bytes))=some (some (.agg #[.int .i64 0,.int .u64 0,.int .u64 0,.int .u64 0,.int .u64 0,.int .i64 0,.int .i64 0,.slice none 0 0,.int .i64 0,.int .i64 0,.int .i64 0,.bool false,.bool false,.bool false,.bool false]),15,112):=by kernel_rfl
theorem add_start {B mb N C g cap:Nat} {v:Value} {w W w3:World} {cs rt:List Value} (hm:AddM w mb v C) (hrow:w.ownsRow B 68 15 v N cs) (hv:v.ownBlock≠some mb) (hB:B≤mb) (hmb:mb<w.heap.size) (hb:Below w.heap.size w W) (hs:w.heap.size<W.heap.size) (hown:w3.ownsRow B 68 15 (.slice (some ⟨g,0,none⟩) (N+1) cap) (N+1) (cs++rt)) (hg:W.grownBy w3 v.ownBlock)
  (hat:v.ownBlock=some g∨g=W.heap.size) (hrl:rt.length=15):
  AddS B mb N cs v w (fun b=>b=w.heap.size) (.slice (some ⟨g,0,none⟩) (N+1) cap) rt [] [] C (w3.setCell ⟨mb,0,none⟩ (.slice (some ⟨g,0,none⟩) (N+1) cap))∧w3.cell? ⟨mb,0,none⟩=some v∧w3.frozen? ⟨mb,0,none⟩=false∧(w3.setCell ⟨mb,0,none⟩ (.slice (some ⟨g,0,none⟩) (N+1) cap)).heap[w.heap.size]?=W.heap[w.heap.size]?∧w3.heap[w.heap.size]?=W.heap[w.heap.size]?:=by
 have hz:=hg.size;have hz2:(w3.setCell ⟨mb,0,none⟩ (.slice (some ⟨g,0,none⟩) (N+1) cap)).heap.size=w3.heap.size:=by simp
 have hset:∀ k,k≠mb→(w3.setCell ⟨mb,0,none⟩ (.slice (some ⟨g,0,none⟩) (N+1) cap)).heap[k]?=w3.heap[k]?:=fun k hk=>Below.heap_setCell _ _ _ _ hk
 have hW:∀ k,k<W.heap.size→v.ownBlock≠some k→w3.heap[k]?=W.heap[k]?:=fun k hk hne=>hg.block k hk (fun e=>hne e.symm)
 have hlt:∀ b,v.ownBlock=some b→b<w.heap.size:=fun b hb=>(row_lt hrow hb).1
 have hgm:g≠mb:=fun e=>by
  rcases hat with h | h
  ·exact hv (by rw[h,e])
  ·omega
 have em:w3.heap[mb]?=w.heap[mb]?:=(hW mb (by omega) hv).trans (hb.block mb hmb);have c:∀ j,w3.cell? ⟨mb,j,none⟩=w.cell? ⟨mb,j,none⟩:=fun j=>cell_same (p:=⟨mb,j,none⟩) em
 have o:∀ j,j≠0→(w3.setCell ⟨mb,0,none⟩ (.slice (some ⟨g,0,none⟩) (N+1) cap)).cell? ⟨mb,j,none⟩=w3.cell? ⟨mb,j,none⟩:=fun j hj=>World.cell?_setCell_other _ _ _ _ (by intro e;injection e with _ e;exact hj e.symm)
 have hrb:v.ownBlock≠some w.heap.size:=fun e=>by have:=hlt _ e;omega
 have hg3:g<w3.heap.size:=(row_lt hown (g:=g) rfl).1;refine⟨⟨?_,?_,hrl,TCs.nil _ _,⟨World.cell?_setCell_same _ _ _ ((c 0).trans hm.c0),(o 1 (by decide)).trans ((c 1).trans hm.c1),fun j=>by rw[World.frozen?_setCell,frozen_same em];exact hm.f j⟩,⟨hB,hmb,fun e=>hgm (by simpa[Value.ownBlock] using e)⟩,⟨?_,fun k hk h1 h2=>?_,fun g' hg'=>?_,fun j hj=>(o j (by omega)).trans (c j)⟩,fun b hb=>?_⟩,(c 0).trans hm.c0,by rw[frozen_same em];exact hm.f 0,?_,hW _ hs hrb⟩
 ·rw[List.append_nil]
  exact ownsRow_same hown (fun k hk=>hset k (fun e=>hgm (by have:g=k:=by simpa[Value.ownBlock] using hk
                                                            rw[this,e])))
 ·have:=hrow.1;omega
 ·refine Below.setCell ?_ hB _
  exact((hb.mono (by omega)).grown hg (by omega) fun k hk=>(row_lt hrow hk).2)
 ·rw[hset k h1,hW k (by omega) h2];exact hb.block k hk
 ·have:g=g':=by simpa[Value.ownBlock] using hg'
  subst this
  rcases hat with h | h
  ·exact .inl h
  ·exact .inr (by omega)
 ·subst hb
  refine⟨Nat.le_refl _,by omega,fun e=>?_⟩;have:g=w.heap.size:=by simpa[Value.ownBlock] using e
  rcases hat with h | h
  ·have:=hlt _ h;omega
  ·omega
 ·rw[hset _ (by omega)];exact hW _ hs hrb
section
theorem info_i64:(Tryd.prog.info? 3).map (fun i=>(i.zero,i.size,i.bytes))=some (some (.int .i64 0),1,8):=by kernel_rfl
theorem cntE_eq (r:Re):cntE r=(if cntQ r=true then 1 else 0)+cntL r.kids:=by cases r;rw[cntE];rfl
theorem sizeE_eq (r:Re):sizeE r=1+sizeL r.kids:=by cases r;rw[sizeE];rfl
structure KidB (w:World) (KB ln N:Nat) (ks:List Re) (j:Nat):Prop where
 lt:KB<w.heap.size
 f:∀ i,w.frozen? ⟨KB,i,none⟩=false
 any:∀ i,i<ln→∃ u:Int,w.cell? ⟨KB,i,none⟩=some (.int .i64 u)
 at_:∀ i,i<j→w.cell? ⟨KB,i,none⟩=some (.int .i64 (N+1+sizeL (ks.take i):Nat))
section
variable {w W:World} {KB ln N j:Nat} {ks:List Re}
theorem KidB.keep (h:KidB w KB ln N ks j) (hs:W.heap[KB]?=w.heap[KB]?):KidB W KB ln N ks j:=by
 refine⟨?_,fun i=>(frozen_same hs i).trans (h.f i),fun i hi=>?_,fun i hi=>(cell_same (p:=⟨KB,i,none⟩) hs).trans (h.at_ i hi)⟩
 ·have h1:w.heap[KB]?=some (w.heap[KB]'h.lt):=Array.getElem?_eq_getElem h.lt
  rw[h1] at hs;exact(Array.getElem?_eq_some_iff.1 hs).1
 ·obtain⟨u,hu⟩:=h.any i hi
  exact⟨u,(cell_same (p:=⟨KB,i,none⟩) hs).trans hu⟩
theorem KidB.set (h:KidB w KB ln N ks j) (hj:j<ln) {u:Int} (hu:u=(N+1+sizeL (ks.take j):Nat)):KidB (w.setCell ⟨KB,j,none⟩ (.int .i64 u)) KB ln N ks (j+1):=by
 obtain⟨u0,hu0⟩:=h.any j hj;have hs:=World.cell?_setCell_same w ⟨KB,j,none⟩ (.int .i64 u) hu0;have ho:∀ i,i≠j→(w.setCell ⟨KB,j,none⟩ (.int .i64 u)).cell? ⟨KB,i,none⟩=w.cell? ⟨KB,i,none⟩:=fun i hi=>World.cell?_setCell_other _ _ _ _ (by intro e;injection e with _ e;exact hi e.symm)
 refine⟨by rw[size_setc];exact h.lt,fun i=>by rw[World.frozen?_setCell];exact h.f i,fun i hi=>?_,fun i hi=>?_⟩
 ·by_cases e:i=j
  ·subst e;exact⟨u,hs⟩
  ·obtain⟨u1,hu1⟩:=h.any i hi
   exact⟨u1,(ho i e).trans hu1⟩
 ·by_cases e:i=j
  ·subst e;rw[hs,hu]
  ·exact(ho i e).trans (h.at_ i (by omega))
theorem kidb_made (hw:w.heap[KB]?=some (.cells (madeCells #[.int .i64 0] ln) 3)):KidB w KB ln N ks 0:=
 ⟨(Array.getElem?_eq_some_iff.1 hw).1,row_free hw,fun i hi=>⟨0,by rw[row_cell hw,made_at hi]⟩,fun i hi=>by omega⟩
end
section
variable {B mb N:Nat} {cs:List Value} {v0:Value} {w0:World} {X:Nat→Prop} {v:Value} {rt cs1:List Value} {C:Nat} {w W:World} {ks:List Re} {q:Bool} {p:Nat}
theorem kid_more {j n c C1:Nat} {x:Re} (hx:ks[j]?=some x) (hq:q=false∨j=0) (h:AddS B mb N cs v0 w0 X v rt cs1 (tabL (ks.take j) q n p c++tabE x (n+sizeL (ks.take j)) p 0 (c+cntL (ks.take j))) C1 w):AddS B mb N cs v0 w0 X v rt cs1 (tabL (ks.take (j+1)) q n p c) C1 w:=by
 rw[take_snoc hx]
 rcases hq with rfl | rfl
 ·rw[tabL_snoc_f];exact h
 ·simp only[List.take_zero,List.nil_append,tabL_one] at h ⊢
  simpa[tabL,sizeL,cntL] using h
theorem root_at {g cap c KB ln kc:Nat} {b e:Bool} {r:Re} {e0 e1 e2 e3:Bool} {pp cn:Nat} (h:AddS B mb N cs v0 w0 X (.slice (some ⟨g,0,none⟩) (N+1+sizeL r.kids) cap) (rt15 r pp (.slice (some ⟨KB,0,none⟩) ln kc) cn e0 e1 e2 e3) cs1 (tabL r.kids q (N+1) p c) C w) (hk:KidB w KB ln N r.kids ln) (hl:ln=r.kids.length):
  RootAt w g (N+1+sizeL r.kids) N r (some ⟨KB,0,none⟩) kc b e:=by
 obtain⟨hBg,hgl,hfg,hcell⟩:=h.blk;have hcl:=h.cl
 have rt:∀ (i:Nat) (u:Value),(rt15 r pp (.slice (some ⟨KB,0,none⟩) ln kc) cn e0 e1 e2 e3)[i]?=some u→w.cell? ⟨g,N * 15+i,none⟩=some u:=fun i u hu=>by
  have hi:i<15:=(List.getElem?_eq_some_iff.1 hu).1;refine hcell _ _ ?_;rw[List.getElem?_append_right (by omega),hcl,Nat.add_sub_cancel_left,List.getElem?_append_left hi];exact hu
 refine⟨by omega,rt 0 _ rfl,rt 5 _ rfl,by rw[←hl];exact rt 7 _ rfl,fun j x hx=>?_⟩;have hj:j<r.kids.length:=(List.getElem?_eq_some_iff.1 hx).1;obtain⟨y,hy,hyr⟩:=tabL_at r.kids q (N+1) p c j x hx;obtain⟨K',c',h1,_⟩:=h.tcs.at_ _ y hy
 have hlt:=(List.getElem?_eq_some_iff.1 hy).1;rw[tabL_len] at hlt;refine⟨KB,N+1+sizeL (r.kids.take j),rfl,hk.at_ j (by omega),by omega,hcell _ _ ?_⟩;have hm:modeN b e<4:=by unfold modeN;cases b <;> cases e <;> decide
 rw[List.getElem?_append_right (by omega),List.getElem?_append_right (by rw[h.rl];omega),hcl,h.rl,show (N+1+sizeL (r.kids.take j)) * 15+11+modeN b e - N * 15 - 15=sizeL (r.kids.take j) * 15+(11+modeN b e) by omega,h1 _ (by omega),←hyr];unfold modeN
 cases b <;> cases e <;> rfl
def rtM (r:Re) (p:Nat) (kv:Value) (cn t:Nat):List Value:=rt15 r p kv cn (decide (0<t) && emptyE false false r) (decide (1<t) && emptyE true false r) (decide (2<t) && emptyE false true r) (decide (3<t) && emptyE true true r)
theorem rtM_set (r:Re) (p:Nat) (kv:Value) (cn:Nat) {b e:Bool}:(rtM r p kv cn (modeN b e)).set (11+modeN b e) (.bool (emptyE b e r))=rtM r p kv cn (modeN b e+1):=by
 cases b <;> cases e <;> simp[rtM,rt15,modeN]
theorem mode_of {t:Nat} (h:t<4):∃ b e,t=modeN b e:=by
 have:t=0∨t=1∨t=2∨t=3:=by omega
 rcases this with rfl | rfl | rfl | rfl
 ·exact⟨false,false,rfl⟩
 ·exact⟨true,false,rfl⟩
 ·exact⟨false,true,rfl⟩
 ·exact⟨true,true,rfl⟩
theorem add_end {g cap KB ln kc Cr:Nat} {r:Re} {pp:Nat} (h:AddS B mb N cs v0 w0 X (.slice (some ⟨g,0,none⟩) (N+1+sizeL r.kids) cap) (rtM r pp (.slice (some ⟨KB,0,none⟩) ln kc) (if cntQ r=true then Cr+1 else 0) 4) cs1 (tabL r.kids (decide (r.kind=4)) (N+1) N (if cntQ r=true then Cr+1 else Cr)) ((if cntQ r=true then Cr+1 else Cr)+cntL r.kids) w) (hk:KidB w KB ln N r.kids ln) (hl:ln=r.kids.length) (hx:X KB):
  AddPost B mb r pp w0 v0 N Cr cs (.returned (.int .i64 (N:Nat))) w:=by
 obtain⟨x1,x2,x3⟩:=h.x KB hx
 have htab:tabE r N pp 0 Cr=⟨r,kidsAt (N+1) r.kids,pp,0,if cntQ r=true then Cr+1 else 0⟩::tabL r.kids (decide (r.kind=4)) (N+1) N (if cntQ r=true then Cr+1 else Cr):=by
  cases r;rw[tabE];rfl
 refine⟨_,rtM r pp (.slice (some ⟨KB,0,none⟩) ln kc) (if cntQ r=true then Cr+1 else 0) 4++cs1,rfl,?_,?_,?_,h.fr⟩
 ·have:=h.row
  rw[tabL_len] at this;rw[sizeE_eq,←Nat.add_assoc];exact this
 ·rw[htab,←List.singleton_append]
  refine TCs.app ?_ (h.tcs.keep (fun b ⟨k1,k2,k3,_⟩=>⟨⟨k1,k2,k3⟩,rfl⟩))
  have hone:=TCs.one (P:=fun b=>w0.heap.size≤b∧b<w.heap.size∧(Value.slice (some ⟨g,0,none⟩) (N+1+sizeL r.kids) cap).ownBlock≠some b) (w:=w) (x:=⟨r,kidsAt (N+1) r.kids,pp,0,if cntQ r=true then Cr+1 else 0⟩) (K:=some ⟨KB,0,none⟩) (c:=kc) (fun i m hi=>by
   have hil:=(List.getElem?_eq_some_iff.1 hi).1;rw[kidsAt_len] at hil;rw[kidsAt_at _ _ _ hil] at hi;injection hi with hi
   refine⟨⟨KB,0,none⟩,rfl,⟨x1,x2,x3⟩,?_⟩;rw[Addr.add_lit,Nat.zero_add,←hi];exact hk.at_ i (by omega))
  have e:rtM r pp (.slice (some ⟨KB,0,none⟩) ln kc) (if cntQ r=true then Cr+1 else 0) 4=nd15 ⟨r,kidsAt (N+1) r.kids,pp,0,if cntQ r=true then Cr+1 else 0⟩ (some ⟨KB,0,none⟩) kc:=by
   unfold rtM rt15 nd15;simp only[kidsAt_len];rw[←hl];simp
  rw[e];exact hone
 ·rw[cntE_eq,show Cr+((if cntQ r=true then 1 else 0)+cntL r.kids)=(if cntQ r=true then Cr+1 else Cr)+cntL r.kids by split <;> omega]
  exact h.m
theorem kid_told {j g cap m c C1:Nat} {x:Re} (hx:ks[j+1]?=some x) (hcl:cs.length=N * 15)
  (h:AddS B mb N cs v0 w0 X (.slice (some ⟨g,0,none⟩) m cap) rt cs1 (tabL (ks.take (j+1)) true (N+1) p c++tabE x (N+1+sizeL (ks.take (j+1))) p 0 (c+cntL (ks.take (j+1)))) C1 w):
  (∃ u:Value,w.cell? ⟨g,(N+1+sizeL (ks.take j)) * 15+9,none⟩=some u)∧∃ cs1',AddS B mb N cs v0 w0 X (.slice (some ⟨g,0,none⟩) m cap) rt cs1' (tabL (ks.take (j+1+1)) true (N+1) p c) C1 (w.setCell ⟨g,(N+1+sizeL (ks.take j)) * 15+9,none⟩ (.int .i64 (N+1+sizeL (ks.take (j+1)):Nat))):=by
 have hj:j+1<ks.length:=(List.getElem?_eq_some_iff.1 hx).1;obtain⟨y,hy⟩:∃ y,ks[j]?=some y:=⟨_,List.getElem?_eq_getElem (by omega)⟩;have e1:=take_snoc hy;have e2:=take_snoc hx;obtain⟨z,h1,h2⟩:=tabL_snoc_t (ks.take j) y x (N+1) p c;rw[←e1] at h1 h2;rw[←e2] at h2;have hlt:=(List.getElem?_eq_some_iff.1 h1).1;have hz:(tabL (ks.take (j+1)) true (N+1) p c++tabE x (N+1+sizeL (ks.take (j+1))) p 0 (c+cntL (ks.take (j+1))))[sizeL (ks.take j)]?=some z:=by rw[List.getElem?_append_left hlt];exact h1
 obtain⟨hBg,hgl,hfg,hcell⟩:=h.blk
 have hset:(tabL (ks.take (j+1)) true (N+1) p c++tabE x (N+1+sizeL (ks.take (j+1))) p 0 (c+cntL (ks.take (j+1)))).set (sizeL (ks.take j)) { z with nx:=N+1+sizeL (ks.take (j+1)) }=tabL (ks.take (j+1+1)) true (N+1) p c:=by
  rw[List.set_append_left _ _ hlt,h2]
 have hc1:cs1.length=(tabL (ks.take (j+1)) true (N+1) p c++tabE x (N+1+sizeL (ks.take (j+1))) p 0 (c+cntL (ks.take (j+1)))).length * 15:=h.tcs.len;have hin:sizeL (ks.take j) * 15+9<cs1.length:=by rw[hc1,List.length_append];omega
 constructor
 ·refine⟨cs1[sizeL (ks.take j) * 15+9]'hin,hcell _ _ ?_⟩
  ·rw[List.getElem?_append_right (by omega),List.getElem?_append_right (by rw[h.rl];omega),hcl,h.rl,show (N+1+sizeL (ks.take j)) * 15+9 - N * 15 - 15=sizeL (ks.take j) * 15+9 by omega]
   exact List.getElem?_eq_getElem hin
 ·refine⟨cs1.set (sizeL (ks.take j) * 15+9) (.int .i64 (N+1+sizeL (ks.take (j+1)):Nat)),?_⟩
  have hv:∃ m',m'=m∧True:=⟨m,rfl,trivial⟩;obtain⟨g',cap',hv',_⟩:=h.block;have hm:m=N+1+(tabL (ks.take (j+1)) true (N+1) p c++tabE x (N+1+sizeL (ks.take (j+1))) p 0 (c+cntL (ks.take (j+1)))).length:=by injection hv'
  refine h.put (g:=g) (cap:=cap) (by rw[←hm]) hBg (set_cs1 hcl h.rl (by omega)) h.rl (by rw[←hset,List.length_set]) (fun P w ht=>?_);rw[←hset];exact ht.setNx hz _
end
end
end Go.Proofs.YtiafefjaldcpbaaDoor
